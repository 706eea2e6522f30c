package sst

import (
	"math"
	"math/rand"
	"slices"
	"strconv"
	"strings"
	"testing"

	"clerestory/api"
	"clerestory/order"
	"clerestory/pack"
	"clerestory/part"
	"clerestory/token"
)

// xs is a text of so many letters.
func xs(n int) string {
	return strings.Repeat("x", n)
}

// num is a number's bytes.
func num(n int) string {
	return string(order.Num(nil, uint64(n)))
}

// place is four bytes, told otherwise than token does.
func place(n int) string {
	return string([]byte{byte(n / (1 << 24)), byte(n / (1 << 16)), byte(n / (1 << 8)), byte(n)})
}

// sealed is bytes with their sum, told otherwise than token does.
func sealed(s string) string {
	at := 1
	for i := range len(s) {
		at = (at*257 + int(s[i]) + 1) % (1<<31 - 1)
	}
	return s + place(at)
}

// laid is what a file is laid of. Each piece stands by itself, so that a test can spoil it.
type laid struct {
	packed []string // the partitions
	gap    string   // behind them
	table  string
	count  string
	keys   []string
	sizes  []string
	behind string // behind the index
	begin  int
}

// laidOf is what Put's file of a table is laid of.
func laidOf(table string, parts []api.Part) laid {
	x := laid{table: num(len(table)) + table, count: num(len(parts))}
	for _, p := range parts {
		b, e := pack.Part(p)
		if e != api.OK {
			panic("a partition that may not be")
		}
		x.packed = append(x.packed, string(b))
		x.keys = append(x.keys, num(len(p.Key))+p.Key)
		x.sizes = append(x.sizes, num(len(b)))
		x.begin += len(b)
	}
	return x
}

// body is all ahead of the sum.
func (x laid) body() string {
	s := strings.Join(x.packed, "") + x.gap + x.table + x.count
	for i, key := range x.keys {
		s += key + x.sizes[i]
	}
	return s + x.behind + place(x.begin)
}

// keyed are partitions of nothing but keys.
func keyed(keys ...string) []api.Part {
	var parts []api.Part
	for _, key := range keys {
		parts = append(parts, api.Part{Key: key})
	}
	return parts
}

// numbered are so many partitions.
func numbered(n int) []api.Part {
	var parts []api.Part
	for i := range n {
		parts = append(parts, api.Part{Key: strconv.Itoa(1000 + i), Gone: i})
	}
	return parts
}

// three are partitions, of which the middle one has all that there may be.
func three() []api.Part {
	return []api.Part{
		{Key: "", Gone: 300},
		{Key: "k", Gone: 1, Rows: []api.Row{
			{Key: "", Shade: 4},
			{Key: "r", Live: api.Cell{At: 3, End: 8}, Gone: 2, Cols: []api.Col{
				{Name: "a", Cell: api.Cell{Val: "v", At: 5}},
				{Name: "b", Cell: api.Cell{Dead: true, At: 6}},
			}},
		}},
		{Key: "k\xff"},
	}
}

// written are tables, and their bytes ahead of the sum written out.
func written() []struct {
	what  string
	table string
	parts []api.Part
	want  string
} {
	return []struct {
		what  string
		table string
		parts []api.Part
		want  string
	}{
		{"the chapter's", "t", nil, "\x01\x01\x74\x00" + "\x00\x00\x00\x00"},
		{"a list of none", "t", []api.Part{}, "\x01\x01\x74\x00" + "\x00\x00\x00\x00"},
		{"the longest name", xs(100), nil, "\x01\x64" + xs(100) + "\x00" + "\x00\x00\x00\x00"},
		{"a name of other letters", "é_1", nil, "\x01\x04\xc3\xa9_1\x00" + "\x00\x00\x00\x00"},
		{"a partition of nothing", "t", []api.Part{{}}, "\x00\x00\x00" + "\x01\x01t" + "\x01\x01" + "\x00" + "\x01\x03" + "\x00\x00\x00\x03"},
		{"a partition", "tt", keyed("a"), "\x01\x01a\x00\x00" + "\x01\x02tt" + "\x01\x01" + "\x01\x01a" + "\x01\x05" + "\x00\x00\x00\x05"},
		{
			"three", "t", three(),
			"\x00\x02\x01\x2c\x00" +
				"\x01\x01k\x01\x01\x01\x02" + "\x00\x00\x00\x01\x04\x00" + "\x01\x01r\x01\x03\x00\x00\x01\x08\x01\x02\x00\x01\x02" + "\x01\x01a\x01\x05\x00\x01\x01v\x00" + "\x01\x01b\x01\x06\x01" +
				"\x01\x02k\xff\x00\x00" +
				"\x01\x01t" + "\x01\x03" + "\x00\x01\x05" + "\x01\x01k\x01\x2b" + "\x01\x02k\xff\x01\x06" +
				"\x00\x00\x00\x36",
		},
		{
			"one of many bytes", "t", []api.Part{{Key: "a", Rows: []api.Row{{Key: xs(300)}}}, {Key: "b"}},
			"\x01\x01a\x00\x01\x01" + "\x02\x01\x2c" + xs(300) + "\x00\x00\x00\x00" +
				"\x01\x01b\x00\x00" +
				"\x01\x01t" + "\x01\x02" + "\x01\x01a\x02\x01\x39" + "\x01\x01b\x01\x05" +
				"\x00\x00\x01\x3e",
		},
	}
}

// P10.1

func TestPut(t *testing.T) {
	for _, x := range written() {
		want := x.want + token.Bytes(token.Of(x.want))
		if got, e := Put(x.table, x.parts); got != want || e != api.OK {
			t.Errorf("%s: % x, %d, not % x", x.what, got, e, want)
		}
		if want != sealed(x.want) {
			t.Errorf("%s: the sum is another one", x.what)
		}
		if x.want != laidOf(x.table, x.parts).body() {
			t.Errorf("%s: laid otherwise", x.what)
		}
	}
	// the sum of the chapter's, by hand: 1, and on by 1, 1, 0x74, and five times 0
	at := 1
	for _, b := range []int{1, 1, 0x74, 0, 0, 0, 0, 0} {
		at = (at*257 + b + 1) % token.Ring
	}
	if got, e := Put("t", nil); got != "\x01\x01\x74\x00\x00\x00\x00\x00"+place(at) || e != api.OK {
		t.Errorf("%x, %d", got, e)
	}
}

// somePart is a partition of a key that may be.
func somePart(r *rand.Rand, key string) api.Part {
	p := api.Part{Key: key, Gone: r.Intn(2) * r.Intn(1000)}
	for i := range r.Intn(4) {
		x := api.Row{Key: string([]byte{byte(60*i + r.Intn(60))}) + xs(r.Intn(3)), Gone: r.Intn(300), Shade: r.Intn(2)}
		if r.Intn(2) == 0 {
			x.Live = api.Cell{At: 1 + r.Intn(api.MaxStamp), End: r.Intn(9)}
		}
		for _, name := range []string{"a", "b", "é"} {
			switch r.Intn(4) {
			case 0:
				x.Cols = append(x.Cols, api.Col{Name: name, Cell: api.Cell{Dead: true, At: 1 + r.Intn(9)}})
			case 1:
				x.Cols = append(x.Cols, api.Col{Name: name, Cell: api.Cell{Val: xs(r.Intn(3)), At: 1 + r.Intn(9), End: r.Intn(300)}})
			}
		}
		p.Rows = append(p.Rows, x)
	}
	return p
}

// someParts are partitions that may be a table's, at most so many.
func someParts(r *rand.Rand, most int) []api.Part {
	keys := make(map[string]int)
	for range r.Intn(most + 1) {
		key := make([]byte, r.Intn(4))
		for i := range key {
			key[i] = "\x00\x01\x7f\x80\xffab"[r.Intn(7)]
		}
		keys[string(key)]++
	}
	var parts []api.Part
	for key := range keys {
		parts = append(parts, somePart(r, key))
	}
	slices.SortFunc(parts, func(a, b api.Part) int { return strings.Compare(a.Key, b.Key) })
	return parts
}

// someTable is a table's name.
func someTable(r *rand.Rand) string {
	return []string{"t", "_u9", "é", xs(100)}[r.Intn(4)]
}

// copied are partitions in new memory.
func copied(parts []api.Part) []api.Part {
	var list []api.Part
	for _, p := range parts {
		list = append(list, part.Copy(p))
	}
	return list
}

// same tells whether two lists of partitions are alike.
func same(a, b []api.Part) bool {
	return slices.EqualFunc(a, b, part.Same)
}

func TestPutOfMany(t *testing.T) {
	r := rand.New(rand.NewSource(101))
	for range 3000 {
		table, parts := someTable(r), someParts(r, 12)
		kept := copied(parts)
		want := sealed(laidOf(table, parts).body())
		if got, e := Put(table, parts); got != want || e != api.OK {
			t.Fatalf("%s, %+v: % x, %d, not % x", table, parts, got, e, want)
		}
		if !same(parts, kept) {
			t.Fatalf("%+v: changed to %+v", kept, parts)
		}
	}
}

// refused are partitions that part's Check refuses, each for one thing.
func refused() map[string]api.Part {
	row := func(x api.Row) api.Part { return api.Part{Key: "p", Rows: []api.Row{x}} }
	cell := func(c api.Cell) api.Part { return row(api.Row{Cols: []api.Col{{Name: "c", Cell: c}}}) }
	many := api.Part{Key: "p"}
	for i := range api.MaxRows + 1 {
		many.Rows = append(many.Rows, api.Row{Key: strconv.Itoa(1000 + i)})
	}
	return map[string]api.Part{
		"a Key of one byte more":       {Key: "p" + xs(api.MaxText)},
		"Gone below 0":                 {Key: "p", Gone: -1},
		"the least Gone":               {Key: "p", Gone: math.MinInt},
		"Gone above MaxStamp":          {Key: "p", Gone: api.MaxStamp + 1},
		"one row more":                 many,
		"rows that fall":               {Key: "p", Rows: []api.Row{{Key: "b"}, {Key: "a"}}},
		"a row twice":                  {Key: "p", Rows: []api.Row{{Key: "a"}, {Key: "a"}}},
		"a row's Gone below 0":         row(api.Row{Gone: -1}),
		"Shade above MaxStamp":         row(api.Row{Shade: api.MaxStamp + 1}),
		"Live dead":                    row(api.Row{Live: api.Cell{Dead: true, At: 1}}),
		"a name that is none":          row(api.Row{Cols: []api.Col{{Name: "A", Cell: api.Cell{At: 1}}}}),
		"a column's cell that is none": cell(api.Cell{}),
		"a value of one byte more":     cell(api.Cell{Val: xs(api.MaxText + 1), At: 1}),
		"a value without a stamp":      cell(api.Cell{Val: "x"}),
	}
}

// notNames are texts that are no table's name.
func notNames() []string {
	return []string{"", "T", "tT", "1t", "t t", " t", "t-", "t\xff", "\x00", "t\x00", "'t'", xs(api.MaxText + 1), xs(5000)}
}

func TestPutOfNoName(t *testing.T) {
	for _, table := range notNames() {
		for _, parts := range [][]api.Part{nil, keyed("a"), keyed("b", "a")} {
			if got, e := Put(table, parts); got != "" || e != api.ErrArg {
				t.Errorf("%q: %d bytes, %d", table, len(got), e)
			}
		}
	}
}

func TestPutOfAPartThatMayNotBe(t *testing.T) {
	for what, p := range refused() {
		if part.Check(p) {
			t.Fatalf("%s: it may be", what)
		}
		for at, parts := range [][]api.Part{{p}, {p, {Key: "q"}}, {{Key: "o"}, p}, {{}, p, {Key: "z"}}} {
			if got, e := Put("t", parts); got != "" || e != api.ErrArg {
				t.Errorf("%s, list %d: %d bytes, %d", what, at, len(got), e)
			}
		}
	}
}

func TestPutOfHowMany(t *testing.T) {
	for n, want := range map[int]api.Errno{
		0: api.OK, 1: api.OK, 2: api.OK, 99: api.OK, api.MaxParts: api.OK, 101: api.ErrArg, 102: api.ErrArg, 256: api.ErrArg, 400: api.ErrArg,
	} {
		parts := numbered(n)
		got, e := Put("t", parts)
		if e != want || e == api.OK && got != sealed(laidOf("t", parts).body()) || e != api.OK && got != "" {
			t.Errorf("%d: %d bytes, %d", n, len(got), e)
		}
	}
}

func TestPutOfKeys(t *testing.T) {
	for _, x := range []struct {
		what string
		keys []string
		want api.Errno
	}{
		{"rising", []string{"a", "b", "c"}, api.OK},
		{"an empty one first", []string{"", "\x00", "\x00\x00", "\x01"}, api.OK},
		{"an empty one last", []string{"a", ""}, api.ErrArg},
		{"one that goes on", []string{"a", "aa", "ab"}, api.OK},
		{"one that goes on first", []string{"aa", "a"}, api.ErrArg},
		{"falling", []string{"b", "a"}, api.ErrArg},
		{"falling at the end", []string{"a", "c", "b"}, api.ErrArg},
		{"falling at the front", []string{"b", "a", "c"}, api.ErrArg},
		{"one that is less than one further ahead", []string{"b", "c", "a"}, api.ErrArg},
		{"two the same", []string{"a", "a"}, api.ErrArg},
		{"two empty ones", []string{"", ""}, api.ErrArg},
		{"two the same at the end", []string{"a", "b", "b"}, api.ErrArg},
		{"two the same at the front", []string{"a", "a", "b"}, api.ErrArg},
		{"all the same", slices.Repeat([]string{"a"}, 100), api.ErrArg},
		{"bytes from 128 on are above", []string{"\x7f", "\x80", "\xc3\xa9", "\xff"}, api.OK},
		{"not below", []string{"\x80", "\x7f"}, api.ErrArg},
		{"a letter above 127 ahead of z", []string{"é", "z"}, api.ErrArg},
		{"a letter above 127 behind z", []string{"z", "é"}, api.OK},
		{"bytes, not code points", []string{"\uffff", "\U00010000", "\xff"}, api.OK},
		{"a byte that begins no code point, behind one", []string{"\xff", "\uffff"}, api.ErrArg},
		{"other ones only behind a byte of 128", []string{"\x80a", "\x80b"}, api.OK},
		{"falling only behind a byte of 128", []string{"\x80b", "\x80a"}, api.ErrArg},
		{"other ones only behind a byte of 255", []string{"k\xff\x01", "k\xff\x80", "k\xff\xff"}, api.OK},
		{"falling only behind a byte of 255", []string{"k\xff\xff", "k\xff\x80"}, api.ErrArg},
		{"the same behind a byte of 255", []string{"k\xff\xff", "k\xff\xff"}, api.ErrArg},
		{"great letters ahead of small ones", []string{"B", "a"}, api.OK},
		{"not by how long they are", []string{"b", "aa"}, api.ErrArg},
		{"numbers as texts", []string{"10", "9"}, api.OK},
		{"the longest ones", []string{xs(99) + "a", xs(100)}, api.OK},
		{"one byte more", []string{xs(99) + "a", xs(101)}, api.ErrArg},
	} {
		parts := keyed(x.keys...)
		got, e := Put("t", parts)
		if e != x.want || e == api.OK && got != sealed(laidOf("t", parts).body()) || e != api.OK && got != "" {
			t.Errorf("%s: % x, %d", x.what, got, e)
		}
		if keys, e := Keys(got); x.want == api.OK && (!slices.Equal(keys, x.keys) || e != api.OK) {
			t.Errorf("%s: the keys are %q, %d", x.what, keys, e)
		}
	}
}

// long is a partition of a key with so many rows of the longest keys.
func long(key string, rows int) api.Part {
	p := api.Part{Key: key}
	for i := range rows {
		p.Rows = append(p.Rows, api.Row{Key: strconv.Itoa(1000+i) + xs(396)})
	}
	return p
}

// weight is how many bytes a file has of its own for a partition.
func weight(p api.Part) int {
	x := laidOf("t", []api.Part{p})
	return len(x.packed[0]) + len(x.keys[0]) + len(x.sizes[0])
}

// filled are partitions whose file has just so many bytes.
func filled(t *testing.T, size int) []api.Part {
	t.Helper()
	parts := []api.Part{{}}
	left := size - 4 - len(laidOf("t", parts).body())
	for _, rows := range []int{100, 10, 1} {
		for {
			p := long(strconv.Itoa(1000+len(parts)), rows)
			if left-weight(p) < 100 {
				break
			}
			parts = append(parts, p)
			left -= weight(p)
		}
	}
	last := api.Part{Key: "z", Rows: []api.Row{{}, {Key: "y"}}}
	for n := range 400 {
		for _, last.Gone = range []int{0, 1, 300} { // of one byte, of two, of three
			if last.Rows[1].Key = "y" + xs(n); weight(last) == left {
				return append(parts, last)
			}
		}
	}
	t.Fatalf("no table of %d bytes", size)
	return nil
}

func TestPutOfMaxFile(t *testing.T) {
	for _, x := range []struct {
		size int
		want api.Errno
	}{
		{api.MaxFile - 5, api.OK},
		{api.MaxFile - 1, api.OK},
		{api.MaxFile, api.OK},
		{api.MaxFile + 1, api.ErrBig},
		{api.MaxFile + 2, api.ErrBig},
		{api.MaxFile + 4, api.ErrBig},
		{api.MaxFile + 8, api.ErrBig},
		{api.MaxFile + 9, api.ErrBig},
	} {
		parts := filled(t, x.size)
		s := sealed(laidOf("t", parts).body())
		got, e := Put("t", parts)
		if e != x.want || e == api.OK && (got != s || len(got) != x.size) || e != api.OK && got != "" {
			t.Errorf("%d bytes: %d, %d", x.size, len(got), e)
		}
		// what is put is got; what is not, though its sum is right, is none
		want, wantParts := api.OK, parts
		if x.want != api.OK {
			want, wantParts = api.ErrBytes, nil
		}
		if all, e := All(s); e != want || !same(all, wantParts) {
			t.Errorf("%d bytes: All: %d, %d", x.size, len(all), e)
		}
		if p, e := Find(s, "z"); e != want || e == api.OK && !part.Same(p, parts[len(parts)-1]) || e != api.OK && !part.Same(p, api.Part{}) {
			t.Errorf("%d bytes: Find: %+v, %d", x.size, p, e)
		}
	}
}

func TestPutOfTooMuch(t *testing.T) {
	var big []api.Part
	for i := range api.MaxParts {
		big = append(big, long(strconv.Itoa(1000+i), api.MaxRows))
	}
	for n, want := range map[int]api.Errno{6: api.OK, 7: api.ErrBig, 8: api.ErrBig, 100: api.ErrBig} {
		if got, e := Put("t", big[:n]); e != want || (got == "") != (e != api.OK) {
			t.Errorf("%d: %d bytes, %d", n, len(got), e)
		}
	}
	bad := api.Part{Key: "z", Gone: -1}
	for what, x := range map[string]struct {
		table string
		parts []api.Part
	}{
		"no name":                         {"T", big},
		"a part that may not be, last":    {"t", append(slices.Clone(big[:99]), bad)},
		"a part that may not be, first":   {"t", append([]api.Part{{Gone: -1}}, big[:99]...)},
		"one more than MaxParts":          {"t", append(slices.Clone(big), api.Part{Key: "z"})},
		"keys that fall at the end":       {"t", append(slices.Clone(big[:99]), api.Part{})},
		"the last two the same":           {"t", append(slices.Clone(big[:99]), big[98])},
		"keys that fall at the front":     {"t", append([]api.Part{{Key: "z"}}, big[:99]...)},
		"all the same":                    {"t", slices.Repeat(big[:1], 100)},
		"a part of too many rows, at all": {"t", []api.Part{long("a", 1000)}},
	} {
		if got, e := Put(x.table, x.parts); got != "" || e != api.ErrArg {
			t.Errorf("%s: %d bytes, %d", what, len(got), e)
		}
	}
}
