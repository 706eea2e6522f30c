package part

import (
	"maps"
	"math"
	"math/rand"
	"slices"
	"strconv"
	"strings"
	"testing"

	"clerestory/api"
	"clerestory/row"
)

// xs is a text of so many letters.
func xs(n int) string {
	return strings.Repeat("x", n)
}

// alive is a column with a cell that is for ever.
func alive(name, val string, at int) api.Col {
	return api.Col{Name: name, Cell: api.Cell{Val: val, At: at}}
}

// ends is a column with a cell that ends.
func ends(name, val string, at, end int) api.Col {
	return api.Col{Name: name, Cell: api.Cell{Val: val, At: at, End: end}}
}

// dead is a column with a dead cell.
func dead(name string, at int) api.Col {
	return api.Col{Name: name, Cell: api.Cell{Dead: true, At: at}}
}

// keyed are rows of such keys, each with its Live at a stamp.
func keyed(at int, keys ...string) []api.Row {
	var rows []api.Row
	for _, key := range keys {
		rows = append(rows, api.Row{Key: key, Live: api.Cell{At: at}})
	}
	return rows
}

// many are so many rows, their keys rising from a number on.
func many(from, n int) []api.Row {
	rows := make([]api.Row, n)
	for i := range rows {
		rows[i] = api.Row{Key: strconv.Itoa(100000 + from + i), Cols: []api.Col{alive("a", "x", 1)}}
	}
	return rows
}

// copiedRow is a row in new memory.
func copiedRow(r api.Row) api.Row {
	r.Cols = slices.Clone(r.Cols)
	return r
}

// copied is a partition in new memory.
func copied(p api.Part) api.Part {
	p.Rows = slices.Clone(p.Rows)
	for i := range p.Rows {
		p.Rows[i] = copiedRow(p.Rows[i])
	}
	return p
}

// equalRow tells whether two rows are alike, told part by part.
func equalRow(a, b api.Row) bool {
	return a.Key == b.Key && a.Live == b.Live && a.Gone == b.Gone && a.Shade == b.Shade && slices.Equal(a.Cols, b.Cols)
}

// equalRows tells whether two lists of rows are alike.
func equalRows(a, b []api.Row) bool {
	if len(a) != len(b) {
		return false
	}
	for i := range a {
		if !equalRow(a[i], b[i]) {
			return false
		}
	}
	return true
}

// equal tells whether two partitions are alike, told part by part.
func equal(a, b api.Part) bool {
	return a.Key == b.Key && a.Gone == b.Gone && equalRows(a.Rows, b.Rows)
}

// numbers are stamps that may be and that may not.
func numbers() []int {
	return []int{math.MinInt, -api.MaxStamp, -1, 0, 1, 5, api.MaxStamp - 1, api.MaxStamp, api.MaxStamp + 1, math.MaxInt}
}

// keys are some that rise by bytes, though not as letters or numbers do.
func keys() []string {
	return []string{"", "\x00", "10", "9", "Z", "a", "a\x00", "ab", "b", "é", "\ufffd", "\U00010000", "\xff"}
}

// someRow is a row that may be, of few names, values and stamps, so that much of two of them is alike.
func someRow(r *rand.Rand, key string) api.Row {
	x := api.Row{Key: key, Gone: r.Intn(5), Shade: r.Intn(5)}
	if x.Live.At = r.Intn(8); x.Live.At > 0 {
		x.Live.End = r.Intn(6)
	}
	for _, name := range []string{"a", "ab", "b"} {
		switch r.Intn(4) {
		case 0:
			x.Cols = append(x.Cols, dead(name, 1+r.Intn(7)))
		case 1, 2:
			x.Cols = append(x.Cols, ends(name, []string{"", "x", "\xff"}[r.Intn(3)], 1+r.Intn(7), r.Intn(6)))
		}
	}
	return x
}

// some is a partition that may be, of a few rows of few keys.
func some(r *rand.Rand, key string) api.Part {
	p := api.Part{Key: key, Gone: r.Intn(6)}
	often := r.Intn(5)
	for _, k := range keys() {
		if r.Intn(4) < often {
			p.Rows = append(p.Rows, someRow(r, k))
		}
	}
	return p
}

// whatever is a partition that Check may refuse: keys that fall, that are twice there, rows, cells and stamps of all sorts.
func whatever(r *rand.Rand) api.Part {
	ns := numbers()
	n := func() int { return ns[r.Intn(len(ns))] }
	c := func() api.Cell {
		return api.Cell{Val: []string{"", "x", xs(101)}[r.Intn(3)], Dead: r.Intn(3) == 0, At: n(), End: n()}
	}
	p := api.Part{Key: []string{"", "p", xs(101)}[r.Intn(3)], Gone: n()}
	for range r.Intn(6) {
		x := api.Row{Key: []string{"", "k", "l", "\xff", xs(401)}[r.Intn(5)], Live: c(), Gone: n(), Shade: n()}
		for range r.Intn(4) {
			x.Cols = append(x.Cols, api.Col{Name: []string{"", "a", "b", "A", "\xff"}[r.Intn(5)], Cell: c()})
		}
		p.Rows = append(p.Rows, x)
	}
	return p
}

// P8.1

func TestCheckOfKeys(t *testing.T) {
	for _, x := range []struct {
		what string
		key  string
		want bool
	}{
		{"none", "", true},
		{"one letter", "p", true},
		{"no letters", "\xff\xfe\x00", true},
		{"of one less than MaxText bytes", xs(api.MaxText - 1), true},
		{"of MaxText bytes", xs(api.MaxText), true},
		{"of one more", xs(api.MaxText + 1), false},
		{"of as many as a row's may have", xs(4 * api.MaxText), false},
		{"of many more", xs(100 * api.MaxText), false},
		{"of MaxText bytes, of letters of two", strings.Repeat("é", api.MaxText/2), true},
		{"of one letter of two bytes more", strings.Repeat("é", api.MaxText/2+1), false},
		{"of MaxText letters of two bytes", strings.Repeat("é", api.MaxText), false},
	} {
		if got := Check(api.Part{Key: x.key}); got != x.want {
			t.Errorf("a key %s: %t", x.what, got)
		}
		if got := Check(api.Part{Key: x.key, Gone: api.MaxStamp, Rows: many(0, api.MaxRows)}); got != x.want {
			t.Errorf("a key %s, of all there may be: %t", x.what, got)
		}
	}
}

func TestCheckOfGone(t *testing.T) {
	for _, n := range numbers() {
		want := n > -1 && n < api.MaxStamp+1
		if got := Check(api.Part{Gone: n}); got != want {
			t.Errorf("Gone %d: %t", n, got)
		}
		if got := Check(api.Part{Key: xs(api.MaxText), Gone: n, Rows: many(0, 3)}); got != want {
			t.Errorf("Gone %d, with a key and rows: %t", n, got)
		}
	}
}

func TestCheckOfHowManyRows(t *testing.T) {
	for n, want := range map[int]bool{0: true, 1: true, api.MaxRows - 1: true, api.MaxRows: true, api.MaxRows + 1: false, 2 * api.MaxRows: false, 5000: false} {
		if got := Check(api.Part{Key: "p", Rows: many(0, n)}); got != want {
			t.Errorf("%d rows: %t", n, got)
		}
	}
	if !Check(api.Part{Rows: []api.Row{}}) {
		t.Error("a list of no rows")
	}
}

func TestCheckOfRowsKeys(t *testing.T) {
	for _, x := range []struct {
		what string
		keys []string
		want bool
	}{
		{"one", []string{"a"}, true},
		{"one that is empty", []string{""}, true},
		{"two that rise", []string{"a", "b"}, true},
		{"two that fall", []string{"b", "a"}, false},
		{"one twice", []string{"a", "a"}, false},
		{"the empty one twice", []string{"", ""}, false},
		{"the empty one first", []string{"", "a"}, true},
		{"the empty one last", []string{"a", ""}, false},
		{"the last one twice", []string{"a", "b", "b"}, false},
		{"the first one twice", []string{"a", "a", "b"}, false},
		{"the first one comes again", []string{"a", "b", "a"}, false},
		{"the last two fall", []string{"a", "c", "b"}, false},
		{"the first two fall", []string{"b", "a", "c"}, false},
		{"one begins another", []string{"a", "ab", "b"}, true},
		{"one begins another, the longer first", []string{"ab", "a", "b"}, false},
		{"one and a nought", []string{"a", "a\x00"}, true},
		{"one and a nought, turned", []string{"a\x00", "a"}, false},
		{"bytes above 127", []string{"z", "\x7f", "\x80", "\xfe", "\xff"}, true},
		{"bytes above 127 ahead of those below", []string{"\x80", "\x7f"}, false},
		{"as bytes rise, not as letters do", []string{"Z", "a", "é", "\ufffd", "\U00010000"}, true},
		{"as halves of letters rise, not as bytes do", []string{"\U00010000", "\ufffd"}, false},
		{"as numbers rise, not as bytes do", []string{"9", "10"}, false},
		{"as great letters and small ones do, not as bytes do", []string{"a", "Z"}, false},
		{"of as many bytes as may be", []string{"a", xs(4 * api.MaxText)}, true},
		{"of one more", []string{"a", xs(4*api.MaxText + 1)}, false},
		{"many of all sorts", keys(), true},
	} {
		if got := Check(api.Part{Key: "p", Rows: keyed(1, x.keys...)}); got != x.want {
			t.Errorf("rows' keys: %s: %t", x.what, got)
		}
	}
	rows := many(0, api.MaxRows)
	for i := 1; i < len(rows); i++ {
		twice := slices.Clone(rows)
		twice[i].Key = twice[i-1].Key
		if Check(api.Part{Rows: twice}) {
			t.Errorf("row %d has the key of the one ahead of it", i)
		}
	}
}

// refused are rows that row's Check refuses, each of one key.
func refused(key string) map[string]api.Row {
	return map[string]api.Row{
		"Live with a value":       {Key: key, Live: api.Cell{Val: "x", At: 5}},
		"Live dead":               {Key: key, Live: api.Cell{Dead: true, At: 5}},
		"Live below 0":            {Key: key, Live: api.Cell{At: -1}},
		"Gone below 0":            {Key: key, Gone: -1},
		"Gone above MaxStamp":     {Key: key, Gone: api.MaxStamp + 1},
		"Shade below 0":           {Key: key, Shade: -1},
		"Shade above MaxStamp":    {Key: key, Shade: api.MaxStamp + 1},
		"a name that is none":     {Key: key, Cols: []api.Col{alive("A", "x", 1)}},
		"names that fall":         {Key: key, Cols: []api.Col{alive("b", "x", 1), alive("a", "x", 1)}},
		"a cell of At 0":          {Key: key, Cols: []api.Col{{Name: "a"}}},
		"a value that is too big": {Key: key, Cols: []api.Col{alive("a", xs(api.MaxText+1), 1)}},
	}
}

func TestCheckOfEachRow(t *testing.T) {
	for _, n := range []int{1, 3, api.MaxRows} {
		for _, i := range []int{0, n / 2, n - 1} {
			rows := many(0, n)
			for what, r := range refused(rows[i].Key) {
				if row.Check(r) {
					t.Fatalf("%s: the row may be", what)
				}
				rows[i] = r
				if Check(api.Part{Key: "p", Rows: rows}) {
					t.Errorf("row %d of %d: %s: it may be", i, n, what)
				}
			}
			rows[i] = api.Row{Key: rows[i].Key, Live: api.Cell{At: 5, End: 9}, Gone: api.MaxStamp, Shade: api.MaxStamp, Cols: []api.Col{dead("a", 3)}}
			if !Check(api.Part{Key: "p", Rows: rows}) {
				t.Errorf("row %d of %d: it may not be", i, n)
			}
		}
	}
}

// may is Check told part by part.
func may(p api.Part) bool {
	ok := len(p.Key) < 101 && p.Gone > -1 && p.Gone <= 1<<40 && len(p.Rows) < 101
	var keys []string
	for _, r := range p.Rows {
		ok = ok && row.Check(r)
		keys = append(keys, r.Key)
	}
	return ok && slices.Equal(keys, slices.Sorted(maps.Keys(byKeys(p.Rows))))
}

// byKeys are the first rows of each key.
func byKeys(rows []api.Row) map[string]api.Row {
	found := make(map[string]api.Row)
	for _, r := range rows {
		if _, ok := found[r.Key]; !ok {
			found[r.Key] = r
		}
	}
	return found
}

func TestCheckOfMany(t *testing.T) {
	r := rand.New(rand.NewSource(81))
	yes, no := 0, 0
	for range 50000 {
		p := some(r, "p")
		if r.Intn(2) == 0 {
			p = whatever(r)
		}
		if len(p.Rows) > 0 {
			switch i := r.Intn(len(p.Rows)); r.Intn(6) {
			case 0:
				p.Rows[i].Key = keys()[r.Intn(len(keys()))]
			case 1:
				p.Rows[i].Gone = numbers()[r.Intn(len(numbers()))]
			}
		}
		want := may(p)
		if got := Check(p); got != want {
			t.Fatalf("%+v: %t", p, got)
		}
		if want {
			yes++
		} else {
			no++
		}
	}
	if yes < 1000 || no < 1000 {
		t.Errorf("%d may be, %d may not", yes, no)
	}
}

func TestJoinOfRows(t *testing.T) {
	full := api.Row{Key: "b", Live: api.Cell{At: 3, End: 4}, Gone: 2, Shade: 7, Cols: []api.Col{alive("a", "1", 5), dead("b", 6)}}
	other := api.Row{Key: "b", Live: api.Cell{At: 3}, Gone: 5, Shade: 1, Cols: []api.Col{dead("a", 5), alive("c", "2", 4)}}
	both := api.Row{Key: "b", Live: api.Cell{At: 3}, Gone: 5, Shade: 7, Cols: []api.Col{dead("a", 5), dead("b", 6), alive("c", "2", 4)}}
	for _, x := range []struct {
		what       string
		a, b, want []api.Row
	}{
		{what: "none"},
		{what: "none on one side", a: []api.Row{full}, want: []api.Row{full}},
		{what: "several, none on one side", a: keyed(1, "a", "b", "c"), want: keyed(1, "a", "b", "c")},
		{what: "none of a list on one side", a: keyed(1, "a"), b: []api.Row{}, want: keyed(1, "a")},
		{what: "apart, one behind the other", a: keyed(1, "a", "b"), b: keyed(1, "c", "d"), want: keyed(1, "a", "b", "c", "d")},
		{what: "apart, one between", a: keyed(1, "a", "d"), b: keyed(1, "b", "c"), want: keyed(1, "a", "b", "c", "d")},
		{what: "apart, by turns", a: keyed(1, "a", "c"), b: keyed(1, "b", "d"), want: keyed(1, "a", "b", "c", "d")},
		{what: "one begins another", a: keyed(1, "a", "b"), b: keyed(1, "ab"), want: keyed(1, "a", "ab", "b")},
		{what: "the empty key", a: keyed(1, "a"), b: keyed(1, ""), want: keyed(1, "", "a")},
		{what: "by bytes, not by letters", a: keyed(1, "\ufffd", "\xff"), b: keyed(1, "Z", "a", "\U00010000"), want: keyed(1, "Z", "a", "\ufffd", "\U00010000", "\xff")},
		{what: "alone, a row with all its parts", a: keyed(1, "a", "c"), b: []api.Row{full}, want: []api.Row{keyed(1, "a")[0], full, keyed(1, "c")[0]}},
		{what: "one meets", a: []api.Row{full}, b: []api.Row{other}, want: []api.Row{both}},
		{what: "one meets, others beside", a: append(keyed(2, "a"), full), b: append([]api.Row{other}, keyed(3, "c")...), want: []api.Row{keyed(2, "a")[0], both, keyed(3, "c")[0]}},
		{what: "the first meets", a: keyed(1, "a", "c"), b: keyed(2, "a", "d"), want: []api.Row{keyed(2, "a")[0], keyed(1, "c")[0], keyed(2, "d")[0]}},
		{what: "the last meets", a: keyed(1, "a", "d"), b: keyed(2, "b", "d"), want: []api.Row{keyed(1, "a")[0], keyed(2, "b")[0], keyed(2, "d")[0]}},
		{what: "all meet, each side with one that counts", a: append(keyed(1, "a"), keyed(4, "b")...), b: keyed(2, "a", "b"), want: append(keyed(2, "a"), keyed(4, "b")...)},
		{what: "a row that is gone stays in it", a: []api.Row{{Key: "a", Gone: 9}}, b: keyed(3, "a"), want: []api.Row{{Key: "a", Live: api.Cell{At: 3}, Gone: 9}}},
		{what: "a row with nothing stays in it", a: []api.Row{{Key: "a"}}, b: keyed(3, "b"), want: []api.Row{{Key: "a"}, keyed(3, "b")[0]}},
	} {
		for _, side := range [][2][]api.Row{{x.a, x.b}, {x.b, x.a}} {
			got, ok := Join(api.Part{Key: "p", Rows: side[0]}, api.Part{Key: "p", Rows: side[1]})
			if want := (api.Part{Key: "p", Rows: x.want}); !ok || !equal(got, want) {
				t.Errorf("%s: %+v and %+v: %+v, %t", x.what, side[0], side[1], got, ok)
			}
		}
		p := api.Part{Key: "p", Gone: 4, Rows: x.want}
		if got, ok := Join(p, p); !ok || !equal(got, p) {
			t.Errorf("%s: with itself: %+v, %t", x.what, got, ok)
		}
	}
}

func TestJoinOfKeysAndGone(t *testing.T) {
	for _, x := range []struct {
		what       string
		a, b, want api.Part
	}{
		{"nought", api.Part{}, api.Part{}, api.Part{}},
		{"a's Key", api.Part{Key: "a"}, api.Part{Key: "b"}, api.Part{Key: "a"}},
		{"a's Key, the lower one or not", api.Part{Key: "b"}, api.Part{Key: "a"}, api.Part{Key: "b"}},
		{"a's Key, that is empty", api.Part{}, api.Part{Key: "b"}, api.Part{}},
		{"b's Key empty", api.Part{Key: "a"}, api.Part{}, api.Part{Key: "a"}},
		{"a's Key, whatever b has", api.Part{Key: "a", Gone: 1}, api.Part{Key: "b", Gone: 2, Rows: keyed(1, "k")}, api.Part{Key: "a", Gone: 2, Rows: keyed(1, "k")}},
		{"Gone of a", api.Part{Gone: 4}, api.Part{Gone: 3}, api.Part{Gone: 4}},
		{"Gone of b", api.Part{Gone: 3}, api.Part{Gone: 4}, api.Part{Gone: 4}},
		{"Gone of both", api.Part{Gone: 4}, api.Part{Gone: 4}, api.Part{Gone: 4}},
		{"the last Gone", api.Part{Gone: api.MaxStamp}, api.Part{Gone: api.MaxStamp - 1}, api.Part{Gone: api.MaxStamp}},
		{"Gone of b alone", api.Part{}, api.Part{Gone: api.MaxStamp}, api.Part{Gone: api.MaxStamp}},
		{"Gone of the partition, and not of the rows", api.Part{Gone: 2, Rows: []api.Row{{Key: "k", Gone: 5}}}, api.Part{Gone: 3, Rows: []api.Row{{Key: "k", Gone: 4}}}, api.Part{Gone: 3, Rows: []api.Row{{Key: "k", Gone: 5}}}},
		{"rows that are gone stay in it", api.Part{Gone: 9}, api.Part{Rows: keyed(2, "k")}, api.Part{Gone: 9, Rows: keyed(2, "k")}},
	} {
		if got, ok := Join(x.a, x.b); !ok || !equal(got, x.want) {
			t.Errorf("%s: %+v, %t", x.what, got, ok)
		}
	}
}

func TestJoinOfAsManyAsMayBe(t *testing.T) {
	for _, x := range []struct {
		what string
		a, b []api.Row
		want int
	}{
		{"all of one", many(0, 100), nil, 100},
		{"all of both", many(0, 100), many(0, 100), 100},
		{"half of each", many(0, 50), many(50, 50), 100},
		{"some shared", many(0, 60), many(20, 80), 100},
		{"one shared", many(0, 50), many(49, 51), 100},
		{"one of one side", many(1, 99), many(0, 1), 100},
		{"one of them already there", many(0, 100), many(99, 1), 100},
		{"one less", many(0, 50), many(50, 49), 99},
		{"one more, apart", many(0, 50), many(50, 51), -1},
		{"one more, some shared", many(0, 60), many(20, 81), -1},
		{"one more, behind", many(0, 100), many(100, 1), -1},
		{"one more, ahead", many(1, 100), many(0, 1), -1},
		{"one more, of as many each", many(0, 100), many(1, 100), -1},
		{"twice as many", many(0, 100), many(100, 100), -1},
	} {
		for _, side := range [][2][]api.Row{{x.a, x.b}, {x.b, x.a}} {
			a, b := api.Part{Key: "p", Gone: 3, Rows: side[0]}, api.Part{Key: "q", Gone: 4, Rows: side[1]}
			got, ok := Join(a, b)
			if x.want < 0 {
				if ok || got.Key != "" || got.Gone != 0 || len(got.Rows) > 0 {
					t.Errorf("%s: %s, %d, %d rows, %t", x.what, got.Key, got.Gone, len(got.Rows), ok)
				}
				continue
			}
			if want := (api.Part{Key: "p", Gone: 4, Rows: many(0, x.want)}); !ok || !equal(got, want) || !Check(got) {
				t.Errorf("%s: %d rows, %t", x.what, len(got.Rows), ok)
			}
		}
	}
}

// joined is Join told with a map, without any order.
func joined(a, b api.Part) (api.Part, bool) {
	rows := byKeys(a.Rows)
	for key, r := range byKeys(b.Rows) {
		if was, ok := rows[key]; ok {
			r = row.Join(was, r)
		}
		rows[key] = r
	}
	if len(rows) > 100 {
		return api.Part{}, false
	}
	p := api.Part{Key: a.Key, Gone: a.Gone}
	if b.Gone > p.Gone {
		p.Gone = b.Gone
	}
	for _, key := range slices.Sorted(maps.Keys(rows)) {
		p.Rows = append(p.Rows, rows[key])
	}
	return p, true
}

func TestJoinOfMany(t *testing.T) {
	r := rand.New(rand.NewSource(82))
	for range 20000 {
		a, b := some(r, "p"), some(r, []string{"p", "o", "", xs(100)}[r.Intn(4)])
		want, ok := joined(a, b)
		if got, yes := Join(a, b); !yes || !ok || !equal(got, want) || !Check(got) {
			t.Fatalf("%+v and %+v: %+v, %t, not %+v", a, b, got, yes, want)
		}
		if !Check(a) || !Check(b) {
			t.Fatalf("%+v or %+v may not be", a, b)
		}
	}
}

// roomy is a partition whose lists have spare room with something in it, and a look at all of that room.
func roomy(p api.Part) (api.Part, func() api.Part) {
	all := p
	all.Rows = append(slices.Clone(p.Rows), someRow(rand.New(rand.NewSource(1)), "spare"), api.Row{Key: "room", Gone: 7})
	p.Rows = all.Rows[:len(p.Rows)]
	for i := range all.Rows {
		cols := append(slices.Clone(all.Rows[i].Cols), alive("spare", "1", 1), alive("room", "2", 2))
		all.Rows[i].Cols = cols[:len(cols)-2]
	}
	return p, func() api.Part {
		looked := copied(all)
		for i, r := range all.Rows {
			looked.Rows[i].Cols = slices.Clone(r.Cols[:len(r.Cols)+2])
		}
		return looked
	}
}

// scratch writes over all that rows have, spare room too, and tells whether no two lists of them share any.
func scratch(rows []api.Row) bool {
	var lists [][]api.Col
	for _, r := range rows[:cap(rows)] {
		lists = append(lists, r.Cols[:cap(r.Cols)])
	}
	for i, cols := range lists {
		for k := range cols {
			cols[k] = alive("scratched", strconv.Itoa(i), 99)
		}
	}
	rows = rows[:cap(rows)]
	for i := range rows {
		rows[i] = api.Row{Key: "scratched", Gone: 99}
	}
	for i, cols := range lists {
		for _, c := range cols {
			if c.Cell.Val != strconv.Itoa(i) {
				return false
			}
		}
	}
	return true
}

// answers are what the package's calls answer of two partitions, as lists of rows.
func answers(a, b api.Part) map[string][]api.Row {
	found := make(map[string][]api.Row)
	both, _ := Join(a, b)
	turned, _ := Join(b, a)
	own, _ := Join(a, a)
	alone, _ := Join(a, api.Part{})
	found["Join"], found["Join turned"], found["Join with itself"], found["Join with nothing"] = both.Rows, turned.Rows, own.Rows, alone.Rows
	for _, key := range keys() {
		r, _ := Row(a, key)
		found["Row of "+key] = []api.Row{r}
	}
	found["Seen"], found["Seen, strict"] = Seen(a, 1, false), Seen(a, 1, true)
	found["Copy"] = Copy(a).Rows
	return found
}

// What is answered is new memory, spare room too, down to the columns; what was handed in, and its spare room, stays as it was.
func TestNewMemory(t *testing.T) {
	r := rand.New(rand.NewSource(83))
	for range 3000 {
		a, lookA := roomy(some(r, "a"))
		b, lookB := roomy(some(r, "b"))
		if r.Intn(4) == 0 {
			b.Rows = nil
		}
		wasA, wasB := lookA(), lookB()
		first, again := answers(a, b), answers(a, b)
		for what, rows := range first {
			if !scratch(rows) {
				t.Fatalf("%s: %+v and %+v: two lists of the answer share memory", what, a, b)
			}
			if !equal(lookA(), wasA) || !equal(lookB(), wasB) {
				t.Fatalf("%s: the answer shares memory with what was handed in, or turned it: %+v and %+v, not %+v and %+v", what, lookA(), lookB(), wasA, wasB)
			}
		}
		for what, rows := range answers(a, b) {
			if !equalRows(rows, again[what]) {
				t.Fatalf("%s: %+v and %+v: two answers share memory", what, a, b)
			}
		}
	}
}

// What is handed in may be written over behind the call: the answer stays.
func TestNothingKept(t *testing.T) {
	r := rand.New(rand.NewSource(84))
	for range 2000 {
		a, b := some(r, "a"), some(r, "b")
		want := answers(copied(a), copied(b))
		got := answers(a, b)
		scratch(a.Rows)
		scratch(b.Rows)
		for what, rows := range got {
			if !equalRows(rows, want[what]) {
				t.Fatalf("%s: %+v, not %+v", what, rows, want[what])
			}
		}
	}
}

func TestRow(t *testing.T) {
	full := api.Row{Key: "b", Live: api.Cell{At: 3, End: 4}, Gone: 2, Shade: 7, Cols: []api.Col{alive("a", "1", 1), dead("b", 6)}}
	p := api.Part{Key: "p", Gone: 9, Rows: []api.Row{{Key: "", Gone: 1}, {Key: "a"}, full, {Key: "bb", Shade: 2}, {Key: "\xff", Live: api.Cell{At: 8}}}}
	for i, r := range p.Rows {
		if got, ok := Row(p, r.Key); !ok || !equalRow(got, p.Rows[i]) {
			t.Errorf("%q: %+v, %t", r.Key, got, ok)
		}
	}
	for _, key := range []string{"A", "a\x00", "ab", "b\x00", "bbb", "c", "p", "\xfe", "\xff\xff", "é", xs(500)} {
		if got, ok := Row(p, key); ok || !equalRow(got, api.Row{Key: key}) {
			t.Errorf("%q: %+v, %t", key, got, ok)
		}
	}
	for _, key := range []string{"", "a", "p"} {
		if got, ok := Row(api.Part{Key: "p", Gone: 9}, key); ok || !equalRow(got, api.Row{Key: key}) {
			t.Errorf("of no rows: %q: %+v, %t", key, got, ok)
		}
	}
	all := api.Part{Rows: many(0, api.MaxRows)}
	for _, r := range all.Rows {
		if got, ok := Row(all, r.Key); !ok || !equalRow(got, r) {
			t.Errorf("of as many as may be: %q: %+v, %t", r.Key, got, ok)
		}
	}
}

func TestSeen(t *testing.T) {
	cols := []api.Col{alive("a", "1", 5), ends("b", "2", 6, 20), dead("c", 9), ends("d", "", 7, 10), alive("e", "5", 30)}
	for _, x := range []struct {
		what          string
		r             api.Row
		gone, now     int
		loose, strict bool
		cols          string
	}{
		{"nothing", api.Row{}, 0, 0, false, false, ""},
		{"Live", api.Row{Live: api.Cell{At: 5}}, 0, 0, true, true, ""},
		{"Live, Gone below it", api.Row{Live: api.Cell{At: 5}}, 4, 0, true, true, ""},
		{"Live, Gone at it", api.Row{Live: api.Cell{At: 5}}, 5, 0, false, false, ""},
		{"Live, Gone above it", api.Row{Live: api.Cell{At: 5}}, 6, 0, false, false, ""},
		{"Live, the row's own Gone below it", api.Row{Live: api.Cell{At: 5}, Gone: 4}, 3, 0, true, true, ""},
		{"Live, the row's own Gone at it", api.Row{Live: api.Cell{At: 5}, Gone: 5}, 3, 0, false, false, ""},
		{"Live, shaded below it", api.Row{Live: api.Cell{At: 5}, Shade: 4}, 3, 0, true, true, ""},
		{"Live, shaded at it", api.Row{Live: api.Cell{At: 5}, Shade: 5}, 3, 0, false, false, ""},
		{"Live ahead of its End", api.Row{Live: api.Cell{At: 5, End: 9}}, 0, 8, true, true, ""},
		{"Live at its End", api.Row{Live: api.Cell{At: 5, End: 9}}, 0, 9, false, false, ""},
		{"Live behind its End", api.Row{Live: api.Cell{At: 5, End: 9}}, 0, 10, false, false, ""},
		{"columns alone", api.Row{Cols: cols}, 0, 0, true, false, "abde"},
		{"columns alone, Gone below all", api.Row{Cols: cols}, 4, 0, true, false, "abde"},
		{"columns alone, Gone at one", api.Row{Cols: cols}, 5, 0, true, false, "bde"},
		{"columns alone, Gone above some", api.Row{Cols: cols}, 8, 0, true, false, "e"},
		{"columns alone, the row's own Gone above some", api.Row{Cols: cols, Gone: 8}, 5, 0, true, false, "e"},
		{"columns alone, Gone at all", api.Row{Cols: cols}, 30, 0, false, false, ""},
		{"columns ahead of an End", api.Row{Cols: cols}, 0, 9, true, false, "abde"},
		{"columns at an End", api.Row{Cols: cols}, 0, 10, true, false, "abe"},
		{"columns behind an End", api.Row{Cols: cols}, 0, 21, true, false, "ae"},
		{"columns, nothing shades them", api.Row{Cols: cols, Shade: 40}, 0, 10, true, false, "abe"},
		{"Live and columns", api.Row{Live: api.Cell{At: 6, End: 21}, Cols: cols}, 5, 20, true, true, "e"},
		{"Live ended, columns not", api.Row{Live: api.Cell{At: 6, End: 20}, Cols: cols}, 4, 20, true, false, "ae"},
		{"Live gone, columns not", api.Row{Live: api.Cell{At: 6}, Cols: cols}, 6, 0, true, false, "de"},
		{"Live shaded, columns not", api.Row{Live: api.Cell{At: 6}, Cols: cols, Shade: 6, Gone: 1}, 2, 0, true, false, "abde"},
		{"Live, columns all gone", api.Row{Live: api.Cell{At: 31}, Cols: cols}, 30, 0, true, true, ""},
		{"dead columns alone", api.Row{Cols: cols[2:3]}, 0, 0, false, false, ""},
		{"Live, dead columns", api.Row{Live: api.Cell{At: 1}, Cols: cols[2:3]}, 0, 0, true, true, ""},
	} {
		x.r.Key = "k"
		want := []api.Row{{Key: "k", Live: x.r.Live}}
		for _, c := range cols {
			if strings.Contains(x.cols, c.Name) {
				want[0].Cols = append(want[0].Cols, c)
			}
		}
		p := api.Part{Key: "p", Gone: x.gone, Rows: []api.Row{x.r}}
		if got := Seen(p, x.now, false); x.loose != (len(got) > 0) || x.loose && !equalRows(got, want) {
			t.Errorf("%s, not strict: %+v", x.what, got)
		}
		if got := Seen(p, x.now, true); x.strict != (len(got) > 0) || x.strict && !equalRows(got, want) {
			t.Errorf("%s, strict: %+v", x.what, got)
		}
	}
}

// seen is Seen told part by part.
func seen(p api.Part, now int, strict bool) []api.Row {
	var rows []api.Row
	for _, r := range p.Rows {
		gone := p.Gone
		if r.Gone > gone {
			gone = r.Gone
		}
		there := func(c api.Cell) bool {
			return c.At > gone && !c.Dead && (c.End == 0 || now < c.End)
		}
		x := api.Row{Key: r.Key, Live: r.Live}
		for _, c := range r.Cols {
			if there(c.Cell) {
				x.Cols = append(x.Cols, c)
			}
		}
		if there(r.Live) && r.Live.At > r.Shade || !strict && len(x.Cols) > 0 {
			rows = append(rows, x)
		}
	}
	return rows
}

func TestSeenOfMany(t *testing.T) {
	r := rand.New(rand.NewSource(85))
	for range 30000 {
		p, now, strict := some(r, "p"), r.Intn(8)-1, r.Intn(2) == 0
		want := seen(p, now, strict)
		if got := Seen(p, now, strict); !equalRows(got, want) {
			t.Fatalf("%+v at %d, %t: %+v, not %+v", p, now, strict, got, want)
		}
	}
	if got := Seen(api.Part{Key: "p"}, 0, false); len(got) > 0 {
		t.Errorf("of no rows: %+v", got)
	}
	all := api.Part{Rows: many(0, api.MaxRows)}
	if got := Seen(all, 0, false); !equalRows(got, all.Rows) {
		t.Errorf("of as many as may be: %d rows", len(got))
	}
}

// turned are partitions like p but for one part each.
func turned(p api.Part) []api.Part {
	var parts []api.Part
	turn := func(f func(x *api.Part)) {
		x := copied(p)
		f(&x)
		parts = append(parts, x)
	}
	cells := func(of func(x *api.Part) *api.Cell) {
		turn(func(x *api.Part) { of(x).Val += "\x00" })
		turn(func(x *api.Part) { of(x).Dead = !of(x).Dead })
		turn(func(x *api.Part) { of(x).At++ })
		turn(func(x *api.Part) { of(x).End-- })
	}
	turn(func(x *api.Part) { x.Key += "p" })
	turn(func(x *api.Part) { x.Gone++ })
	turn(func(x *api.Part) { x.Rows = append(x.Rows, api.Row{}) })
	turn(func(x *api.Part) { x.Rows = append([]api.Row{{}}, x.Rows...) })
	for i, r := range p.Rows {
		turn(func(x *api.Part) { x.Rows[i].Key += "k" })
		turn(func(x *api.Part) { x.Rows[i].Gone++ })
		turn(func(x *api.Part) { x.Rows[i].Shade-- })
		turn(func(x *api.Part) { x.Rows[i].Cols = append(x.Rows[i].Cols, api.Col{}) })
		turn(func(x *api.Part) { x.Rows = slices.Delete(x.Rows, i, i+1) })
		turn(func(x *api.Part) { x.Rows = slices.Insert(x.Rows, i, copiedRow(x.Rows[i]), api.Row{Key: "between"}) })
		cells(func(x *api.Part) *api.Cell { return &x.Rows[i].Live })
		for k := range r.Cols {
			turn(func(x *api.Part) { x.Rows[i].Cols[k].Name += "x" })
			turn(func(x *api.Part) { x.Rows[i].Cols = slices.Delete(x.Rows[i].Cols, k, k+1) })
			cells(func(x *api.Part) *api.Cell { return &x.Rows[i].Cols[k].Cell })
		}
	}
	return parts
}

func TestSame(t *testing.T) {
	full := api.Row{Key: "b", Live: api.Cell{At: 3, End: 4}, Gone: 2, Shade: 7, Cols: []api.Col{alive("a", "1", 1), dead("b", 6), ends("c", "", 3, 4)}}
	odd := api.Row{Key: xs(401), Live: api.Cell{Val: "x", Dead: true, At: -1, End: -1}, Gone: -7, Shade: math.MaxInt, Cols: []api.Col{alive("b", "x", -1), alive("a", "y", 0), alive("", xs(101), math.MaxInt)}}
	for _, p := range []api.Part{
		{},
		{Key: "p", Gone: 3, Rows: []api.Row{{Key: "a"}, full, {Key: "c", Gone: 1}}},
		{Key: xs(101), Gone: -1, Rows: []api.Row{odd, full, odd, {}}},
		{Key: "p", Gone: math.MinInt, Rows: many(0, 103)},
	} {
		if !Same(p, p) || !Same(p, copied(p)) || !Same(copied(p), p) {
			t.Errorf("%+v: not alike", p)
		}
		for _, x := range turned(p) {
			if Same(p, x) || Same(x, p) {
				t.Errorf("%+v and %+v: alike", p, x)
			}
		}
	}
}

func TestSameOfLists(t *testing.T) {
	a, b := keyed(1, "a")[0], keyed(1, "b")[0]
	for _, x := range []struct {
		what string
		a, b []api.Row
		want bool
	}{
		{"nil and empty", nil, []api.Row{}, true},
		{"columns nil and empty", []api.Row{{Key: "a"}}, []api.Row{{Key: "a", Cols: []api.Col{}}}, true},
		{"another order", []api.Row{a, b}, []api.Row{b, a}, false},
		{"one twice", []api.Row{a, a}, []api.Row{a}, false},
		{"one twice in both", []api.Row{a, a}, []api.Row{a, a}, true},
		{"the one twice, or the other", []api.Row{a, a, b}, []api.Row{a, b, b}, false},
		{"with room behind", append(make([]api.Row, 0, 9), a), []api.Row{a}, true},
		{"the last one other", []api.Row{a, b}, []api.Row{a, {Key: "b"}}, false},
	} {
		p, q := api.Part{Key: "p", Rows: x.a}, api.Part{Key: "p", Rows: x.b}
		if Same(p, q) != x.want || Same(q, p) != x.want {
			t.Errorf("%s: not %t", x.what, x.want)
		}
	}
}

func TestStamp(t *testing.T) {
	full := func() api.Part {
		return api.Part{Key: "p", Gone: 3, Rows: []api.Row{
			{Key: "a", Live: api.Cell{At: 4, End: 900}, Gone: 5, Shade: 6, Cols: []api.Col{ends("a", "z", 7, 901), dead("b", 8)}},
			{Key: "b", Live: api.Cell{At: 4, End: 902}, Gone: 5, Shade: 6, Cols: []api.Col{ends("a", "z", 7, 903), dead("b", 8)}},
		}}
	}
	if got := Stamp(full()); got != 8 {
		t.Errorf("of all: %d", got)
	}
	for _, at := range []int{9, 900, api.MaxStamp} {
		for what, put := range map[string]func(p *api.Part){
			"the partition's Gone":  func(p *api.Part) { p.Gone = at },
			"the first Live":        func(p *api.Part) { p.Rows[0].Live.At = at },
			"the first row's Gone":  func(p *api.Part) { p.Rows[0].Gone = at },
			"the first row's Shade": func(p *api.Part) { p.Rows[0].Shade = at },
			"the first cell":        func(p *api.Part) { p.Rows[0].Cols[0].Cell.At = at },
			"the first dead cell":   func(p *api.Part) { p.Rows[0].Cols[1].Cell.At = at },
			"the last Live":         func(p *api.Part) { p.Rows[1].Live.At = at },
			"the last row's Gone":   func(p *api.Part) { p.Rows[1].Gone = at },
			"the last row's Shade":  func(p *api.Part) { p.Rows[1].Shade = at },
			"a cell of the last":    func(p *api.Part) { p.Rows[1].Cols[0].Cell.At = at },
			"the last dead cell":    func(p *api.Part) { p.Rows[1].Cols[1].Cell.At = at },
		} {
			p := full()
			put(&p)
			if got := Stamp(p); got != at {
				t.Errorf("%s at %d: %d", what, at, got)
			}
		}
	}
	for _, x := range []struct {
		what string
		p    api.Part
		want int
	}{
		{"nothing", api.Part{}, 0},
		{"a key alone", api.Part{Key: "p"}, 0},
		{"rows with nothing", api.Part{Key: "p", Rows: []api.Row{{Key: "a"}, {Key: "b"}}}, 0},
		{"Gone alone", api.Part{Gone: 4}, 4},
		{"Live alone", api.Part{Rows: keyed(6, "a")}, 6},
		{"a row's Gone alone", api.Part{Rows: []api.Row{{Gone: 6}}}, 6},
		{"a Shade alone", api.Part{Rows: []api.Row{{Shade: 6}}}, 6},
		{"a cell alone", api.Part{Rows: []api.Row{{Cols: []api.Col{alive("a", "x", 6)}}}}, 6},
		{"an End is no stamp", api.Part{Gone: 1, Rows: []api.Row{{Live: api.Cell{At: 2, End: 50}, Cols: []api.Col{ends("a", "", 3, 60)}}}}, 3},
		{"what is gone counts", api.Part{Gone: 9, Rows: []api.Row{{Gone: 8, Live: api.Cell{At: 2}}}}, 9},
	} {
		if got := Stamp(x.p); got != x.want {
			t.Errorf("%s: %d", x.what, got)
		}
	}
}

// The greatest stamp of two joined is the greater one of theirs: nothing of it is lost, nothing else comes.
func TestStampOfMany(t *testing.T) {
	r := rand.New(rand.NewSource(86))
	for range 10000 {
		a, b := some(r, "p"), some(r, "p")
		stamps := []int{a.Gone}
		for _, x := range a.Rows {
			stamps = append(stamps, x.Live.At, x.Gone, x.Shade)
			for _, c := range x.Cols {
				stamps = append(stamps, c.Cell.At)
			}
		}
		if got := Stamp(a); got != slices.Max(stamps) {
			t.Fatalf("%+v: %d", a, got)
		}
		if both, ok := Join(a, b); !ok || Stamp(both) != max(Stamp(a), Stamp(b)) {
			t.Fatalf("%+v and %+v: %d", a, b, Stamp(both))
		}
	}
}

func TestCopy(t *testing.T) {
	r := rand.New(rand.NewSource(87))
	parts := []api.Part{
		{},
		{Key: "p", Gone: 3},
		{Rows: []api.Row{}},
		{Rows: []api.Row{{Key: "a", Cols: []api.Col{}}}},
		{Key: xs(api.MaxText), Gone: api.MaxStamp, Rows: many(0, api.MaxRows)},
		{Key: xs(api.MaxText + 1), Gone: -1, Rows: many(0, 3*api.MaxRows)},
	}
	for range 3000 {
		parts = append(parts, some(r, "p"), whatever(r))
	}
	for _, p := range parts {
		full, look := roomy(p)
		was := look()
		got := Copy(full)
		if !equal(got, p) || !Same(got, p) {
			t.Fatalf("%+v: %+v", p, got)
		}
		if !scratch(got.Rows) || !equal(look(), was) || !equal(full, p) {
			t.Fatalf("%+v: the copy shares memory", p)
		}
		got = Copy(full)
		scratch(full.Rows)
		if !equal(got, p) {
			t.Fatalf("%+v: the copy turns with it", p)
		}
	}
}

// Of whatever partitions nothing panics, nothing that is handed in is changed, and Same and Copy are as promised.
func TestWhateverPartitions(t *testing.T) {
	r := rand.New(rand.NewSource(88))
	ns := numbers()
	for range 20000 {
		a, b := whatever(r), whatever(r)
		if r.Intn(2) == 0 {
			b = copied(a)
			b.Gone = ns[r.Intn(len(ns))]
		}
		wasA, wasB := copied(a), copied(b)
		now := ns[r.Intn(len(ns))]
		if got, want := Same(a, b), equal(a, b); got != want {
			t.Fatalf("%+v and %+v: %t", a, b, got)
		}
		if got := Copy(a); !equal(got, a) {
			t.Fatalf("%+v: %+v", a, got)
		}
		Check(a)
		Join(a, b)
		Row(a, "k")
		Seen(a, now, r.Intn(2) == 0)
		Stamp(a)
		if !equal(a, wasA) || !equal(b, wasB) {
			t.Fatalf("%+v and %+v are others now: %+v and %+v", wasA, wasB, a, b)
		}
	}
	big := api.Part{Rows: many(0, 5000)}
	if got, ok := Join(big, api.Part{Rows: many(2500, 5000)}); ok || !equal(got, api.Part{}) {
		t.Error("far too many rows are joined")
	}
}

// P8.2

// must joins two that have room.
func must(t *testing.T, a, b api.Part) api.Part {
	t.Helper()
	p, ok := Join(a, b)
	if !ok {
		t.Fatalf("%+v and %+v: no room", a, b)
	}
	return p
}

func TestJoinOfThree(t *testing.T) {
	r := rand.New(rand.NewSource(89))
	parts := []api.Part{{Key: "p"}, {Key: "p", Gone: 9}}
	for range 14 {
		parts = append(parts, some(r, "p"))
	}
	for _, a := range parts {
		for _, b := range parts {
			both := must(t, a, b)
			if !Same(both, must(t, b, a)) || !Same(must(t, a, both), both) || !Same(must(t, both, b), both) {
				t.Fatalf("%+v, %+v: the order, or how often, tells", a, b)
			}
			for _, c := range parts {
				if !Same(must(t, both, c), must(t, a, must(t, b, c))) {
					t.Fatalf("%+v, %+v, %+v: how they are bracketed tells", a, b, c)
				}
			}
		}
		if !Same(must(t, a, a), a) || !Same(must(t, a, api.Part{}), a) || !Same(must(t, api.Part{Key: "p"}, a), a) {
			t.Fatalf("%+v: with itself, or with nothing, it is another", a)
		}
	}
}

// bracketed joins all of a list, split anywhere, and each part of it split anywhere.
func bracketed(r *rand.Rand, parts []api.Part) (api.Part, bool) {
	if len(parts) == 1 {
		return parts[0], true
	}
	cut := 1 + r.Intn(len(parts)-1)
	left, ok := bracketed(r, parts[:cut])
	right, yes := bracketed(r, parts[cut:])
	if !ok || !yes {
		return api.Part{}, false
	}
	return Join(left, right)
}

// repeated are the parts in any order, some of them several times.
func repeated(r *rand.Rand, parts []api.Part) []api.Part {
	again := slices.Clone(parts)
	for range r.Intn(6) {
		again = append(again, parts[r.Intn(len(parts))])
	}
	r.Shuffle(len(again), func(i, k int) { again[i], again[k] = again[k], again[i] })
	return again
}

func TestJoinInAnyOrder(t *testing.T) {
	r := rand.New(rand.NewSource(90))
	for range 1000 {
		parts := make([]api.Part, 1+r.Intn(10))
		for i := range parts {
			parts[i] = some(r, "p")
		}
		want := parts[0]
		for _, x := range parts[1:] {
			want, _ = joined(want, x)
		}
		for range 4 {
			again := repeated(r, parts)
			if got, ok := bracketed(r, again); !ok || !Same(got, want) {
				t.Fatalf("%d partitions joined: %+v, %t, not %+v", len(again), got, ok, want)
			}
		}
	}
}

// Where all of them together have just MaxRows rows there is room for each join; with one more there is none, whatever the way.
func TestJoinInAnyOrderOfAsManyAsMayBe(t *testing.T) {
	r := rand.New(rand.NewSource(91))
	for range 100 {
		for _, n := range []int{api.MaxRows, api.MaxRows + 1} {
			rows := many(0, n)
			parts := make([]api.Part, 2+r.Intn(6))
			for i := range parts {
				parts[i] = api.Part{Key: "p", Gone: r.Intn(5)}
			}
			for i := range rows {
				owner := r.Intn(len(parts))
				for k := range parts {
					if (k == owner || r.Intn(3) == 0) && len(parts[k].Rows) < api.MaxRows {
						parts[k].Rows = append(parts[k].Rows, rows[i])
					}
				}
			}
			for range 4 {
				got, ok := bracketed(r, repeated(r, parts))
				if n > api.MaxRows {
					if ok || !equal(got, api.Part{}) {
						t.Fatalf("%d partitions of %d rows: %d rows, %t", len(parts), n, len(got.Rows), ok)
					}
				} else if !ok || !equalRows(got.Rows, rows) {
					t.Fatalf("%d partitions of %d rows: %d rows, %t", len(parts), n, len(got.Rows), ok)
				}
			}
		}
	}
}

// The chapter's example: Gone 9 joined to any: rows older than 10 are not seen, whatever older is joined behind it.
func TestGoneIsNotSeen(t *testing.T) {
	old := api.Part{Key: "p"}
	for i := 1; i <= 9; i++ {
		old.Rows = append(old.Rows, api.Row{Key: strconv.Itoa(10 + i), Live: api.Cell{At: i}, Cols: []api.Col{alive("a", "old", i)}})
	}
	late := api.Part{Key: "p", Rows: []api.Row{
		{Key: "10", Live: api.Cell{At: 10}},
		{Key: "15", Cols: []api.Col{alive("b", "late", 10)}},
		{Key: "19", Live: api.Cell{At: 10}, Cols: []api.Col{alive("b", "late", 11)}},
	}}
	gone := api.Part{Key: "p", Gone: 9}
	if len(Seen(old, 0, true)) != 9 {
		t.Error("not all rows are seen before")
	}
	p := must(t, old, gone)
	if got := Seen(p, 0, false); len(got) > 0 {
		t.Errorf("seen behind Gone 9: %+v", got)
	}
	p = must(t, must(t, p, late), old)
	want := []api.Row{
		{Key: "10", Live: api.Cell{At: 10}},
		{Key: "15", Live: api.Cell{At: 5}, Cols: []api.Col{alive("b", "late", 10)}},
		{Key: "19", Live: api.Cell{At: 10}, Cols: []api.Col{alive("b", "late", 11)}},
	}
	if got := Seen(p, 0, false); !equalRows(got, want) {
		t.Errorf("not strict: %+v", got)
	}
	if got := Seen(p, 0, true); !equalRows(got, []api.Row{want[0], want[2]}) {
		t.Errorf("strict: %+v", got)
	}
}

func TestGoneStaysGone(t *testing.T) {
	r := rand.New(rand.NewSource(92))
	for range 5000 {
		p := some(r, "p")
		p = must(t, p, api.Part{Gone: 9})
		for range 1 + r.Intn(5) {
			older := some(r, "p")
			if r.Intn(2) == 0 {
				p = must(t, p, older)
			} else {
				p = must(t, older, p)
			}
		}
		for now := -1; now < 8; now++ {
			if got := Seen(p, now, false); len(got) > 0 {
				t.Fatalf("%+v at %d: seen %+v", p, now, got)
			}
		}
		if p.Gone != 9 {
			t.Fatalf("%+v: Gone is not 9", p)
		}
	}
}
