package row

import (
	"cmp"
	"maps"
	"math"
	"math/rand"
	"slices"
	"strconv"
	"strings"
	"testing"

	"clerestory/api"
	"clerestory/cell"
)

// xs is a text of so many letters.
func xs(n int) string {
	return strings.Repeat("x", n)
}

// alive is a column with a cell that is for ever.
func alive(name, val string, at int) api.Col {
	return api.Col{Name: name, Cell: api.Cell{Val: val, At: at}}
}

// ends is a column with a cell that ends.
func ends(name, val string, at, end int) api.Col {
	return api.Col{Name: name, Cell: api.Cell{Val: val, At: at, End: end}}
}

// dead is a column with a dead cell.
func dead(name string, at int) api.Col {
	return api.Col{Name: name, Cell: api.Cell{Dead: true, At: at}}
}

// many are so many columns, their names rising.
func many(n int) []api.Col {
	cols := make([]api.Col, n)
	for i := range cols {
		cols[i] = alive("c"+strconv.Itoa(1000+i), "x", 1+i)
	}
	return cols
}

// copied is a row in new memory.
func copied(r api.Row) api.Row {
	r.Cols = slices.Clone(r.Cols)
	return r
}

// equal tells whether two rows are alike, told part by part.
func equal(a, b api.Row) bool {
	if a.Key != b.Key || a.Live != b.Live || a.Gone != b.Gone || a.Shade != b.Shade || len(a.Cols) != len(b.Cols) {
		return false
	}
	for i := range a.Cols {
		if a.Cols[i] != b.Cols[i] {
			return false
		}
	}
	return true
}

// numbers are stamps that may be and that may not.
func numbers() []int {
	return []int{math.MinInt, -api.MaxStamp, -1, 0, 1, 5, api.MaxStamp - 1, api.MaxStamp, api.MaxStamp + 1, math.MaxInt}
}

// some is a row that may be, of few names, values and stamps, so that much of two of them is alike.
func some(r *rand.Rand, key string) api.Row {
	x := api.Row{Key: key, Gone: r.Intn(5), Shade: r.Intn(5)}
	if x.Live.At = r.Intn(6); x.Live.At > 0 {
		x.Live.End = r.Intn(6)
	}
	for _, name := range []string{"_", "a", "a0", "ab", "b", "é", "\U00010000"} {
		switch r.Intn(4) {
		case 0:
			x.Cols = append(x.Cols, dead(name, 1+r.Intn(5)))
		case 1, 2:
			x.Cols = append(x.Cols, ends(name, []string{"", "x", "xx", "\xff"}[r.Intn(4)], 1+r.Intn(5), r.Intn(6)))
		}
	}
	return x
}

// whatever is a row that Check may refuse: names that are none, that fall, that are twice there, cells and stamps of all sorts.
func whatever(r *rand.Rand) api.Row {
	ns := numbers()
	n := func() int { return ns[r.Intn(len(ns))] }
	c := func() api.Cell {
		return api.Cell{Val: []string{"", "x", xs(101)}[r.Intn(3)], Dead: r.Intn(3) == 0, At: n(), End: n()}
	}
	x := api.Row{Key: []string{"", "k", xs(401)}[r.Intn(3)], Live: c(), Gone: n(), Shade: n()}
	for range r.Intn(12) {
		x.Cols = append(x.Cols, api.Col{Name: []string{"", "a", "b", "A", "0", "\xff", xs(101)}[r.Intn(7)], Cell: c()})
	}
	return x
}

// P7.1

func TestCheckOfKeys(t *testing.T) {
	for _, x := range []struct {
		what string
		key  string
		want bool
	}{
		{"none", "", true},
		{"one letter", "k", true},
		{"one nought", "\x00", true},
		{"no letters", "\xff\xfe\x00", true},
		{"of MaxText bytes", xs(api.MaxText), true},
		{"of one more than MaxText", xs(api.MaxText + 1), true},
		{"of one less than may be", xs(4*api.MaxText - 1), true},
		{"of as many as may be", xs(4 * api.MaxText), true},
		{"of one more", xs(4*api.MaxText + 1), false},
		{"of many more", xs(100 * api.MaxText), false},
		{"of as many as may be, of letters of two bytes", strings.Repeat("é", 2*api.MaxText), true},
		{"of one letter of two bytes more", strings.Repeat("é", 2*api.MaxText+1), false},
		{"of as many letters as may be bytes", strings.Repeat("é", 4*api.MaxText), false},
	} {
		if got := Check(api.Row{Key: x.key}); got != x.want {
			t.Errorf("a key %s: %t", x.what, got)
		}
	}
}

func TestCheckOfLive(t *testing.T) {
	for _, x := range []struct {
		what string
		live api.Cell
		want bool
	}{
		{"nought", api.Cell{}, true},
		{"At 1", api.Cell{At: 1}, true},
		{"At MaxStamp", api.Cell{At: api.MaxStamp}, true},
		{"At above MaxStamp", api.Cell{At: api.MaxStamp + 1}, false},
		{"At below 0", api.Cell{At: -1}, false},
		{"with an End", api.Cell{At: 5, End: 9}, true},
		{"with an End below At", api.Cell{At: 5, End: 1}, true},
		{"with the last End", api.Cell{At: 5, End: api.MaxStamp}, true},
		{"with an End above MaxStamp", api.Cell{At: 5, End: api.MaxStamp + 1}, false},
		{"with an End below 0", api.Cell{At: 5, End: -1}, false},
		{"At 0 with an End", api.Cell{End: 1}, false},
		{"with a value", api.Cell{Val: "x", At: 5}, false},
		{"with a value of one nought", api.Cell{Val: "\x00", At: 5}, false},
		{"with a value and an End", api.Cell{Val: "x", At: 5, End: 9}, false},
		{"At 0 with a value", api.Cell{Val: "x"}, false},
		{"dead", api.Cell{Dead: true, At: 5}, false},
		{"dead, At MaxStamp", api.Cell{Dead: true, At: api.MaxStamp}, false},
		{"dead, At 0", api.Cell{Dead: true}, false},
		{"dead with a value", api.Cell{Val: "x", Dead: true, At: 5}, false},
	} {
		if got := Check(api.Row{Key: "k", Live: x.live}); got != x.want {
			t.Errorf("Live %s: %t", x.what, got)
		}
	}
}

func TestCheckOfGoneAndShade(t *testing.T) {
	for _, n := range numbers() {
		want := n > -1 && n < api.MaxStamp+1
		if got := Check(api.Row{Gone: n}); got != want {
			t.Errorf("Gone %d: %t", n, got)
		}
		if got := Check(api.Row{Shade: n}); got != want {
			t.Errorf("Shade %d: %t", n, got)
		}
		if got := Check(api.Row{Gone: n, Shade: api.MaxStamp}); got != want {
			t.Errorf("Gone %d and the last Shade: %t", n, got)
		}
		if got := Check(api.Row{Gone: api.MaxStamp, Shade: n}); got != want {
			t.Errorf("Shade %d and the last Gone: %t", n, got)
		}
	}
}

func TestCheckOfCols(t *testing.T) {
	a, b := alive("a", "x", 1), alive("b", "x", 1)
	for _, x := range []struct {
		what string
		cols []api.Col
		want bool
	}{
		{"none", nil, true},
		{"none, of a list", []api.Col{}, true},
		{"one", []api.Col{a}, true},
		{"two that rise", []api.Col{a, b}, true},
		{"two that fall", []api.Col{b, a}, false},
		{"one twice", []api.Col{a, a}, false},
		{"one twice, with two cells", []api.Col{a, alive("a", "y", 2)}, false},
		{"the last one twice", []api.Col{a, b, b}, false},
		{"the last two fall", []api.Col{a, alive("c", "x", 1), b}, false},
		{"the first one comes again", []api.Col{a, b, a}, false},
		{"a name and a longer one", []api.Col{a, alive("aa", "x", 1), b}, true},
		{"a name and a shorter one", []api.Col{alive("aa", "x", 1), a}, false},
		{"names that rise by bytes, not as letters do", []api.Col{alive("_", "", 1), a, alive("z", "", 1), alive("é", "", 1), alive("\ufffd", "", 1), alive("\U00010000", "", 1)}, true},
		{"names that rise as numbers alone", []api.Col{alive("a9", "", 1), alive("a10", "", 1)}, false},
		{"MaxCols", many(api.MaxCols), true},
		{"one more than MaxCols", many(api.MaxCols + 1), false},
		{"many more", many(1000), false},
		{"a name that is empty", []api.Col{alive("", "x", 1)}, false},
		{"a name of a great letter", []api.Col{alive("A", "x", 1)}, false},
		{"a name that begins with a digit", []api.Col{alive("1a", "x", 1)}, false},
		{"a name with a blank", []api.Col{alive("a b", "x", 1)}, false},
		{"a name of bytes that are no letters", []api.Col{alive("a\xff", "x", 1)}, false},
		{"a second name that is none", []api.Col{a, alive("b-", "x", 1)}, false},
		{"a first name that is none", []api.Col{alive("A", "x", 1), a}, false},
		{"a name of MaxText bytes", []api.Col{alive(xs(api.MaxText), "x", 1)}, true},
		{"a name of one more", []api.Col{alive(xs(api.MaxText+1), "x", 1)}, false},
		{"a name of other letters", []api.Col{alive("été_9", "x", 1)}, true},
		{"a dead cell", []api.Col{dead("a", 1)}, true},
		{"a dead cell with a value", []api.Col{{Name: "a", Cell: api.Cell{Val: "x", Dead: true, At: 1}}}, false},
		{"a dead cell with an End", []api.Col{{Name: "a", Cell: api.Cell{Dead: true, At: 1, End: 1}}}, false},
		{"a cell that ends", []api.Col{ends("a", "x", 1, 9)}, true},
		{"an End above MaxStamp", []api.Col{ends("a", "x", 1, api.MaxStamp+1)}, false},
		{"an End below 0", []api.Col{ends("a", "x", 1, -1)}, false},
		{"a value of MaxText bytes", []api.Col{alive("a", xs(api.MaxText), 1)}, true},
		{"a value of one more", []api.Col{alive("a", xs(api.MaxText+1), 1)}, false},
		{"a value that is empty", []api.Col{alive("a", "", 1)}, true},
		{"At 0, nought else", []api.Col{{Name: "a"}}, false},
		{"At 0 with a value", []api.Col{alive("a", "x", 0)}, false},
		{"At 0, dead", []api.Col{dead("a", 0)}, false},
		{"At below 0", []api.Col{alive("a", "x", -1)}, false},
		{"At MaxStamp", []api.Col{alive("a", "x", api.MaxStamp)}, true},
		{"At above MaxStamp", []api.Col{alive("a", "x", api.MaxStamp+1)}, false},
		{"a last cell that may not be", append(many(api.MaxCols-1), alive("d", "x", -1)), false},
		{"a last cell of At 0", append(many(api.MaxCols-1), api.Col{Name: "d"}), false},
		{"a cell between that may not be", []api.Col{a, {Name: "aa"}, b}, false},
	} {
		if got := Check(api.Row{Key: "k", Cols: x.cols}); got != x.want {
			t.Errorf("columns: %s: %t", x.what, got)
		}
	}
}

// A row may be where each part of it may be, and there alone.
func TestCheckOfAllParts(t *testing.T) {
	keys := map[string]bool{"": true, xs(400): true, xs(401): false}
	lives := map[api.Cell]bool{{}: true, {At: 5, End: 9}: true, {Dead: true, At: 5}: false, {Val: "x", At: 5}: false}
	stamps := map[int]bool{-1: false, 0: true, api.MaxStamp: true, api.MaxStamp + 1: false}
	cols := []struct {
		cols []api.Col
		may  bool
	}{{nil, true}, {many(8), true}, {many(9), false}, {[]api.Col{{Name: "a"}}, false}, {[]api.Col{dead("a", 7), alive("b", "y", 2)}, true}}
	for key, k := range keys {
		for live, l := range lives {
			for gone, g := range stamps {
				for shade, s := range stamps {
					for _, c := range cols {
						r := api.Row{Key: key, Live: live, Gone: gone, Shade: shade, Cols: c.cols}
						if want := k && l && g && s && c.may; Check(r) != want {
							t.Errorf("%+v: not %t", r, want)
						}
					}
				}
			}
		}
	}
}

func TestJoinOfCols(t *testing.T) {
	a, b, c, d := alive("a", "1", 5), alive("b", "2", 5), alive("c", "3", 5), alive("d", "4", 5)
	for _, x := range []struct {
		what string
		a, b []api.Col
		want []api.Col
	}{
		{what: "none"},
		{what: "none on one side", a: []api.Col{a, b}, want: []api.Col{a, b}},
		{what: "apart, one behind the other", a: []api.Col{a, b}, b: []api.Col{c, d}, want: []api.Col{a, b, c, d}},
		{what: "apart, one between", a: []api.Col{a, d}, b: []api.Col{b, c}, want: []api.Col{a, b, c, d}},
		{what: "apart, by turns", a: []api.Col{a, c}, b: []api.Col{b, d}, want: []api.Col{a, b, c, d}},
		{what: "of a name and a longer one", a: []api.Col{a, b}, b: []api.Col{alive("aa", "", 1)}, want: []api.Col{a, alive("aa", "", 1), b}},
		{what: "of bytes, not of letters", a: []api.Col{alive("\ufffd", "", 1)}, b: []api.Col{alive("_", "", 1), alive("\U00010000", "", 1)}, want: []api.Col{alive("_", "", 1), alive("\ufffd", "", 1), alive("\U00010000", "", 1)}},
		{what: "one meets: the later", a: []api.Col{a}, b: []api.Col{alive("a", "0", 6)}, want: []api.Col{alive("a", "0", 6)}},
		{what: "one meets: dead above alive", a: []api.Col{a}, b: []api.Col{dead("a", 5)}, want: []api.Col{dead("a", 5)}},
		{what: "one meets: alive, later", a: []api.Col{a}, b: []api.Col{dead("a", 4)}, want: []api.Col{a}},
		{what: "one meets: the greater value", a: []api.Col{a}, b: []api.Col{alive("a", "11", 5)}, want: []api.Col{alive("a", "11", 5)}},
		{what: "one meets: for ever", a: []api.Col{a}, b: []api.Col{ends("a", "1", 5, 900)}, want: []api.Col{a}},
		{what: "one meets: the later End", a: []api.Col{ends("a", "1", 5, 10)}, b: []api.Col{ends("a", "1", 5, 9)}, want: []api.Col{ends("a", "1", 5, 10)}},
		{what: "the first meets", a: []api.Col{a, c}, b: []api.Col{a, d}, want: []api.Col{a, c, d}},
		{what: "the last meets", a: []api.Col{a, d}, b: []api.Col{b, d}, want: []api.Col{a, b, d}},
		{what: "one between meets", a: []api.Col{a, b, c}, b: []api.Col{b}, want: []api.Col{a, b, c}},
		{what: "all meet, each side with some that count", a: []api.Col{a, alive("b", "x", 1), c}, b: []api.Col{alive("a", "x", 1), b, dead("c", 6)}, want: []api.Col{a, b, dead("c", 6)}},
		{what: "more than MaxCols", a: many(20)[:12], b: many(20)[8:], want: many(20)},
	} {
		for _, side := range [][2][]api.Col{{x.a, x.b}, {x.b, x.a}} {
			if got := Join(api.Row{Cols: side[0]}, api.Row{Cols: side[1]}); !slices.Equal(got.Cols, x.want) {
				t.Errorf("%s: %+v and %+v: %+v", x.what, side[0], side[1], got.Cols)
			}
		}
	}
}

func TestJoinOfAllElse(t *testing.T) {
	for _, x := range []struct {
		what       string
		a, b, want api.Row
	}{
		{"nought", api.Row{}, api.Row{}, api.Row{}},
		{"the later Live", api.Row{Live: api.Cell{At: 3}}, api.Row{Live: api.Cell{At: 4, End: 9}}, api.Row{Live: api.Cell{At: 4, End: 9}}},
		{"Live with nought", api.Row{Live: api.Cell{At: 3, End: 2}}, api.Row{}, api.Row{Live: api.Cell{At: 3, End: 2}}},
		{"the Live that is for ever", api.Row{Live: api.Cell{At: 4}}, api.Row{Live: api.Cell{At: 4, End: 9}}, api.Row{Live: api.Cell{At: 4}}},
		{"the Live that ends later", api.Row{Live: api.Cell{At: 4, End: 8}}, api.Row{Live: api.Cell{At: 4, End: 9}}, api.Row{Live: api.Cell{At: 4, End: 9}}},
		{"the greater Gone", api.Row{Gone: 3}, api.Row{Gone: 4}, api.Row{Gone: 4}},
		{"the greater Shade", api.Row{Shade: 3}, api.Row{Shade: 4}, api.Row{Shade: 4}},
		{"Gone of one, Shade of the other", api.Row{Gone: 3, Shade: 7}, api.Row{Gone: 9, Shade: 1}, api.Row{Gone: 9, Shade: 7}},
		{"the last stamps", api.Row{Gone: api.MaxStamp}, api.Row{Shade: api.MaxStamp}, api.Row{Gone: api.MaxStamp, Shade: api.MaxStamp}},
		{"a Live and a cell that are gone stay in it", api.Row{Live: api.Cell{At: 3}, Cols: []api.Col{alive("a", "x", 2)}}, api.Row{Gone: 9}, api.Row{Live: api.Cell{At: 3}, Gone: 9, Cols: []api.Col{alive("a", "x", 2)}}},
	} {
		for _, pair := range [][2]api.Row{{x.a, x.b}, {x.b, x.a}} {
			a, b, want := pair[0], pair[1], x.want
			a.Key, b.Key, want.Key = "k", "other", "k"
			if got := Join(a, b); !equal(got, want) {
				t.Errorf("%s: %+v and %+v: %+v", x.what, a, b, got)
			}
		}
	}
}

// joined is Join told with a map, without any order.
func joined(a, b api.Row) api.Row {
	cells := make(map[string]api.Cell)
	for _, c := range slices.Concat(a.Cols, b.Cols) {
		if was, ok := cells[c.Name]; !ok || cell.Cmp(c.Cell, was) > 0 {
			cells[c.Name] = c.Cell
		}
	}
	if cell.Cmp(b.Live, a.Live) > 0 {
		a.Live = b.Live
	}
	if b.Gone > a.Gone {
		a.Gone = b.Gone
	}
	if b.Shade > a.Shade {
		a.Shade = b.Shade
	}
	a.Cols = nil
	for _, name := range slices.Sorted(maps.Keys(cells)) {
		a.Cols = append(a.Cols, api.Col{Name: name, Cell: cells[name]})
	}
	return a
}

func TestJoinOfMany(t *testing.T) {
	r := rand.New(rand.NewSource(71))
	for range 50000 {
		a, b := some(r, "k"), some(r, []string{"k", "j", "", xs(400)}[r.Intn(4)])
		got, want := Join(a, b), joined(a, b)
		if !equal(got, want) {
			t.Fatalf("%+v and %+v: %+v, not %+v", a, b, got, want)
		}
		if !Check(a) || !Check(b) || !Check(got) {
			t.Fatalf("%+v and %+v: one of them, or the two together, may not be", a, b)
		}
	}
}

// roomy is a row whose columns have spare room with something in it, and those columns with the room.
func roomy(r api.Row) (api.Row, []api.Col) {
	all := append(slices.Clone(r.Cols), alive("spare", "1", 1), alive("spare", "2", 2))
	r.Cols = all[:len(r.Cols)]
	return r, all
}

// What is answered is new memory, spare room too; what was handed in, and its spare room, stays as it was.
func TestNewMemory(t *testing.T) {
	r := rand.New(rand.NewSource(72))
	scratch := func(cols []api.Col) {
		cols = cols[:cap(cols)]
		for i := range cols {
			cols[i] = alive("scratched", "!", 99)
		}
	}
	for range 5000 {
		a, allA := roomy(some(r, "a"))
		b, allB := roomy(some(r, "b"))
		if r.Intn(4) == 0 {
			b.Cols = nil
		}
		wasA, wasB := slices.Clone(allA), slices.Clone(allB)
		want := joined(a, b)
		first, second, own := Join(a, b), Join(b, a), Join(a, a)
		seen, again := Seen(a, 0, 0), Seen(a, 0, 0)
		for _, cols := range [][]api.Col{second.Cols, own.Cols, seen} {
			scratch(cols)
		}
		if !equal(first, want) {
			t.Fatalf("%+v and %+v: two answers share memory", a, b)
		}
		scratch(first.Cols)
		if !slices.Equal(allA, wasA) || !slices.Equal(allB, wasB) {
			t.Fatalf("%+v and %+v: an answer shares their memory", a, b)
		}
		if want := Seen(a, 0, 0); !slices.Equal(again, want) {
			t.Fatalf("%+v: two answers of Seen share memory", a)
		}
	}
}

// Merge

// pair is a number, and what was put together under it.
type pair struct {
	n    int
	text string
}

func TestMerge(t *testing.T) {
	byNumber := func(x, y pair) int { return cmp.Compare(x.n, y.n) }
	behind := func(x, y pair) pair { return pair{x.n, x.text + y.text} }
	for _, x := range []struct {
		what       string
		a, b, want []pair
	}{
		{"none", nil, []pair{}, nil},
		{"none behind some", []pair{{1, "a"}, {2, "b"}}, nil, []pair{{1, "a"}, {2, "b"}}},
		{"some behind none", nil, []pair{{1, "a"}, {2, "b"}}, []pair{{1, "a"}, {2, "b"}}},
		{"by turns", []pair{{1, "a"}, {3, "c"}, {5, "e"}}, []pair{{2, "b"}, {4, "d"}}, []pair{{1, "a"}, {2, "b"}, {3, "c"}, {4, "d"}, {5, "e"}}},
		{"the second one ahead", []pair{{8, "h"}, {9, "i"}}, []pair{{1, "a"}, {2, "b"}}, []pair{{1, "a"}, {2, "b"}, {8, "h"}, {9, "i"}}},
		{"some meet: the first list's ahead", []pair{{1, "a"}, {2, "b"}, {3, "c"}}, []pair{{2, "B"}, {3, "C"}, {4, "D"}}, []pair{{1, "a"}, {2, "bB"}, {3, "cC"}, {4, "D"}}},
		{"all meet", []pair{{1, "a"}, {2, "b"}}, []pair{{1, "A"}, {2, "B"}}, []pair{{1, "aA"}, {2, "bB"}}},
		{"more than once in a list", []pair{{1, "a"}, {1, "b"}, {2, "c"}}, []pair{{1, "A"}, {2, "B"}, {2, "C"}}, []pair{{1, "abA"}, {2, "cBC"}}},
	} {
		a, b := slices.Clone(x.a), slices.Clone(x.b)
		got := Merge(a, b, byNumber, behind)
		if !slices.Equal(got, x.want) {
			t.Errorf("%s: %v", x.what, got)
		}
		for i := range got {
			got[i] = pair{}
		}
		if !slices.Equal(a, x.a) || !slices.Equal(b, x.b) {
			t.Errorf("%s: the lists are others now: %v, %v", x.what, a, b)
		}
	}
}

func TestMergeOfAnotherType(t *testing.T) {
	shorter := func(x, y string) int { return len(x) - len(y) }
	greater := func(x, y string) string { return max(x, y) }
	got := Merge([]string{"b", "aa", "xxxx"}, []string{"a", "ab", "www"}, shorter, greater)
	if !slices.Equal(got, []string{"b", "ab", "www", "xxxx"}) {
		t.Error(got)
	}
}

// It ends, whatever cmp says.
func TestMergeByAnyOrder(t *testing.T) {
	r := rand.New(rand.NewSource(73))
	first := func(x, y int) int { return x }
	for range 2000 {
		a, b := r.Perm(r.Intn(6)), r.Perm(r.Intn(6))
		got := Merge(a, b, func(x, y int) int { return r.Intn(3) - 1 }, first)
		if len(got) > len(a)+len(b) {
			t.Fatalf("%v and %v: %v", a, b, got)
		}
	}
}

// P7.2

func TestCell(t *testing.T) {
	r := api.Row{Key: "k", Live: api.Cell{At: 9}, Gone: 5, Cols: []api.Col{alive("a", "1", 5), dead("b", 6), ends("c", "3", 7, 8), alive("cc", "", 1)}}
	for _, x := range []struct {
		name string
		want api.Cell
	}{
		{"a", api.Cell{Val: "1", At: 5}},
		{"b", api.Cell{Dead: true, At: 6}},
		{"c", api.Cell{Val: "3", At: 7, End: 8}},
		{"cc", api.Cell{At: 1}},
		{"", api.Cell{}},
		{"A", api.Cell{}},
		{"aa", api.Cell{}},
		{"_", api.Cell{}},
		{"ccc", api.Cell{}},
		{"z", api.Cell{}},
		{"k", api.Cell{}},
	} {
		if got := Cell(r, x.name); got != x.want {
			t.Errorf("%q: %+v", x.name, got)
		}
		if got := Cell(api.Row{Live: api.Cell{At: 5}}, x.name); got != (api.Cell{}) {
			t.Errorf("%q of none: %+v", x.name, got)
		}
	}
	full := api.Row{Cols: many(api.MaxCols)}
	for i, c := range full.Cols {
		if got := Cell(full, c.Name); got != c.Cell {
			t.Errorf("the %d. of MaxCols: %+v", i, got)
		}
	}
}

func TestGone(t *testing.T) {
	for _, gone := range numbers() {
		for _, part := range numbers() {
			want := gone
			if part > gone {
				want = part
			}
			for _, r := range []api.Row{{Gone: gone}, {Key: xs(401), Live: api.Cell{Val: "x", At: math.MaxInt}, Gone: gone, Shade: math.MaxInt, Cols: []api.Col{alive("", "x", math.MaxInt), alive("", "x", -1)}}} {
				if got := Gone(r, part); got != want {
					t.Errorf("Gone %d, of the partition %d: %d", gone, part, got)
				}
			}
		}
	}
}

func TestBest(t *testing.T) {
	cols := []api.Col{alive("a", "1", 5), alive("b", "", 6), ends("c", "3", 6, 1), dead("d", 9), alive("last", "x", api.MaxStamp)}
	for _, x := range []struct {
		what       string
		gone, part int
		name       string
		want       api.Cell
		ok         bool
	}{
		{"nothing gone", 0, 0, "a", api.Cell{Val: "1", At: 5}, true},
		{"just above the row's Gone", 4, 0, "a", api.Cell{Val: "1", At: 5}, true},
		{"just at the row's Gone", 5, 0, "a", api.Cell{}, false},
		{"below the row's Gone", 6, 0, "a", api.Cell{}, false},
		{"just above the partition's Gone", 0, 4, "a", api.Cell{Val: "1", At: 5}, true},
		{"just at the partition's Gone", 0, 5, "a", api.Cell{}, false},
		{"below the partition's Gone", 0, 6, "a", api.Cell{}, false},
		{"the row's Gone above the partition's", 5, 4, "a", api.Cell{}, false},
		{"the partition's Gone above the row's", 4, 5, "a", api.Cell{}, false},
		{"just above both", 4, 4, "a", api.Cell{Val: "1", At: 5}, true},
		{"the document's example", 5, 0, "a", api.Cell{}, false},
		{"the partition's Gone below 0", 4, math.MinInt, "a", api.Cell{Val: "1", At: 5}, true},
		{"all gone of the partition", 0, math.MaxInt, "last", api.Cell{}, false},
		{"an empty value", 5, 0, "b", api.Cell{At: 6}, true},
		{"a cell that has ended long ago", 5, 5, "c", api.Cell{Val: "3", At: 6, End: 1}, true},
		{"a dead cell", 0, 0, "d", api.Cell{}, false},
		{"a dead cell that is gone", 9, 9, "d", api.Cell{}, false},
		{"a dead cell above all that is gone", 8, 8, "d", api.Cell{}, false},
		{"the last stamp, just above Gone", api.MaxStamp - 1, 0, "last", api.Cell{Val: "x", At: api.MaxStamp}, true},
		{"the last stamp, at Gone", api.MaxStamp, 0, "last", api.Cell{}, false},
		{"a name that is not there", 0, 0, "z", api.Cell{}, false},
		{"a name that is not there, below 0", 0, -5, "z", api.Cell{}, false},
		{"no name", 0, 0, "", api.Cell{}, false},
		{"a part of a name", 0, 0, "las", api.Cell{}, false},
	} {
		r := api.Row{Key: "k", Live: api.Cell{At: 20}, Gone: x.gone, Shade: 30, Cols: cols}
		if got, ok := Best(r, x.part, x.name); got != x.want || ok != x.ok {
			t.Errorf("%s: Gone %d and %d: %q: %+v, %t", x.what, x.gone, x.part, x.name, got, ok)
		}
	}
}

func TestSeen(t *testing.T) {
	cols := []api.Col{alive("a", "1", 5), ends("b", "2", 6, 20), dead("c", 9), ends("d", "", 7, 10), alive("é", "5", 30)}
	for _, x := range []struct {
		what            string
		gone, part, now int
		want            string
	}{
		{"before all Ends", 0, 0, 0, "abdé"},
		{"long before", 0, 0, math.MinInt, "abdé"},
		{"just before an End", 0, 0, 9, "abdé"},
		{"at an End", 0, 0, 10, "abé"},
		{"behind an End", 0, 0, 11, "abé"},
		{"just before the other End", 0, 0, 19, "abé"},
		{"at the other End", 0, 0, 20, "aé"},
		{"behind all Ends", 0, 0, math.MaxInt, "aé"},
		{"the row's Gone just below one", 4, 0, 0, "abdé"},
		{"the row's Gone at one", 5, 0, 0, "bdé"},
		{"the partition's Gone at two", 5, 6, 0, "dé"},
		{"the row's Gone above the partition's", 7, 6, 0, "é"},
		{"the partition's Gone just below the last", 7, 29, 0, "é"},
		{"all gone of the row", 30, 0, 0, ""},
		{"all gone of the partition", 0, 30, 0, ""},
		{"gone far beyond", 0, math.MaxInt, 0, ""},
		{"the partition's Gone below 0", 0, math.MinInt, 10, "abé"},
		{"gone or ended", 6, 6, 10, "é"},
	} {
		r := api.Row{Key: "k", Live: api.Cell{At: 3, End: 1}, Gone: x.gone, Shade: 40, Cols: cols}
		var want []api.Col
		for _, c := range cols {
			if strings.Contains(x.want, c.Name) {
				want = append(want, c)
			}
		}
		if got := Seen(r, x.part, x.now); !slices.Equal(got, want) {
			t.Errorf("%s: %+v", x.what, got)
		}
	}
	if got := Seen(api.Row{Key: "k", Live: api.Cell{At: 3}}, 0, 0); len(got) != 0 {
		t.Errorf("without columns: %+v", got)
	}
}

func TestIs(t *testing.T) {
	forEver, ending := api.Cell{At: 5}, api.Cell{At: 5, End: 9}
	for _, x := range []struct {
		what      string
		r         api.Row
		part, now int
		loose     bool
		strict    bool
	}{
		{"nought", api.Row{}, 0, 0, false, false},
		{"nought, where nothing is gone, nor shaded, nor anything below 0", api.Row{}, -1, -1, false, false},
		{"Live", api.Row{Live: forEver}, 0, 0, true, true},
		{"Live, the partition's Gone just below", api.Row{Live: forEver}, 4, 0, true, true},
		{"Live, the partition's Gone at it", api.Row{Live: forEver}, 5, 0, false, false},
		{"Live, the partition's Gone above", api.Row{Live: forEver}, 6, 0, false, false},
		{"Live, the row's Gone just below", api.Row{Live: forEver, Gone: 4}, 0, 0, true, true},
		{"Live, the row's Gone at it", api.Row{Live: forEver, Gone: 5}, 0, 0, false, false},
		{"Live, the row's Gone at it, above the partition's", api.Row{Live: forEver, Gone: 5}, 3, 0, false, false},
		{"Live, shaded just below", api.Row{Live: forEver, Shade: 4}, 0, 0, true, true},
		{"Live, shaded at it", api.Row{Live: forEver, Shade: 5}, 0, 0, false, false},
		{"Live, shaded above", api.Row{Live: forEver, Shade: 6}, 0, 0, false, false},
		{"Live, gone and shaded just below", api.Row{Live: forEver, Gone: 4, Shade: 4}, 4, 0, true, true},
		{"Live, gone below, shaded at it", api.Row{Live: forEver, Gone: 1, Shade: 5}, 1, 0, false, false},
		{"Live, shaded below, gone at it", api.Row{Live: forEver, Gone: 5, Shade: 1}, 1, 0, false, false},
		{"Live, shaded below, the partition gone at it", api.Row{Live: forEver, Gone: 1, Shade: 1}, 5, 0, false, false},
		{"Live, for ever, behind all", api.Row{Live: forEver}, 0, math.MaxInt, true, true},
		{"Live, for ever, before all", api.Row{Live: forEver}, 0, math.MinInt, true, true},
		{"Live, just before its End", api.Row{Live: ending}, 0, 8, true, true},
		{"Live, at its End", api.Row{Live: ending}, 0, 9, false, false},
		{"Live, behind its End", api.Row{Live: ending}, 0, 10, false, false},
		{"Live, the partition's Gone below 0", api.Row{Live: api.Cell{At: 1}}, math.MinInt, 0, true, true},
		{"Live of the last stamp", api.Row{Live: api.Cell{At: api.MaxStamp}, Gone: api.MaxStamp - 1, Shade: api.MaxStamp - 1}, api.MaxStamp - 1, 0, true, true},
		{"a column alone", api.Row{Cols: []api.Col{alive("a", "", 5)}}, 0, 0, true, false},
		{"the last of columns alone", api.Row{Cols: []api.Col{dead("a", 5), ends("b", "", 5, 1), alive("c", "", 5)}}, 0, 1, true, false},
		{"a column that is shaded, which is nothing to it", api.Row{Shade: 9, Cols: []api.Col{alive("a", "", 5)}}, 0, 0, true, false},
		{"a column, the row's Gone just below", api.Row{Gone: 4, Cols: []api.Col{alive("a", "", 5)}}, 0, 0, true, false},
		{"a column, the row's Gone at it", api.Row{Gone: 5, Cols: []api.Col{alive("a", "", 5)}}, 0, 0, false, false},
		{"a column, the partition's Gone at it", api.Row{Cols: []api.Col{alive("a", "", 5)}}, 5, 0, false, false},
		{"a dead column", api.Row{Cols: []api.Col{dead("a", 5)}}, 0, 0, false, false},
		{"a column just before its End", api.Row{Cols: []api.Col{ends("a", "x", 5, 9)}}, 0, 8, true, false},
		{"a column at its End", api.Row{Cols: []api.Col{ends("a", "x", 5, 9)}}, 0, 9, false, false},
		{"Live shaded, a column seen", api.Row{Live: forEver, Shade: 5, Cols: []api.Col{alive("a", "", 5)}}, 0, 0, true, false},
		{"Live ended, a column seen", api.Row{Live: ending, Cols: []api.Col{alive("a", "", 5)}}, 0, 9, true, false},
		{"Live gone, a column seen", api.Row{Live: forEver, Gone: 5, Cols: []api.Col{alive("a", "", 6)}}, 0, 0, true, false},
		{"Live seen, a column ended", api.Row{Live: forEver, Cols: []api.Col{ends("a", "", 5, 1)}}, 0, 1, true, true},
		{"both seen", api.Row{Live: forEver, Cols: []api.Col{alive("a", "", 5)}}, 0, 0, true, true},
		{"both gone", api.Row{Live: forEver, Gone: 5, Cols: []api.Col{alive("a", "", 5)}}, 0, 0, false, false},
	} {
		if got := Is(x.r, x.part, x.now, false); got != x.loose {
			t.Errorf("%s, not strict: %t", x.what, got)
		}
		if got := Is(x.r, x.part, x.now, true); got != x.strict {
			t.Errorf("%s, strict: %t", x.what, got)
		}
	}
}

// All of P7.2 told part by part, of many rows that may be.
func TestAskedOfMany(t *testing.T) {
	r := rand.New(rand.NewSource(74))
	for range 50000 {
		x, part, now := some(r, "k"), r.Intn(7)-1, r.Intn(8)-1
		gone := part
		if x.Gone > gone {
			gone = x.Gone
		}
		var seen []api.Col
		for _, c := range x.Cols {
			want := c.Cell
			best := !want.Dead && want.At > gone
			if best && (want.End == 0 || now < want.End) {
				seen = append(seen, c)
			}
			if !best {
				want = api.Cell{}
			}
			if got, ok := Best(x, part, c.Name); got != want || ok != best || Cell(x, c.Name) != c.Cell {
				t.Fatalf("%+v, %d: %s: %+v, %t", x, part, c.Name, got, ok)
			}
		}
		if got, ok := Best(x, part, "z"); got != (api.Cell{}) || ok || Cell(x, "z") != (api.Cell{}) {
			t.Fatalf("%+v, %d: z: %+v, %t", x, part, got, ok)
		}
		if got := Seen(x, part, now); !slices.Equal(got, seen) {
			t.Fatalf("%+v, %d, %d: seen %+v, not %+v", x, part, now, got, seen)
		}
		is := x.Live.At > 0 && (x.Live.End == 0 || now < x.Live.End) && x.Live.At > gone && x.Live.At > x.Shade
		if got := Is(x, part, now, true); got != is {
			t.Fatalf("%+v, %d, %d: strict: %t", x, part, now, got)
		}
		if got := Is(x, part, now, false); got != (is || len(seen) > 0) {
			t.Fatalf("%+v, %d, %d: not strict: %t", x, part, now, got)
		}
	}
}

// turned are rows like r but for one part each.
func turned(r api.Row) []api.Row {
	var rows []api.Row
	turn := func(f func(x *api.Row)) {
		x := copied(r)
		f(&x)
		rows = append(rows, x)
	}
	cells := func(of func(x *api.Row) *api.Cell) {
		turn(func(x *api.Row) { of(x).Val += "\x00" })
		turn(func(x *api.Row) { of(x).Dead = !of(x).Dead })
		turn(func(x *api.Row) { of(x).At++ })
		turn(func(x *api.Row) { of(x).End-- })
	}
	turn(func(x *api.Row) { x.Key += "k" })
	turn(func(x *api.Row) { x.Gone++ })
	turn(func(x *api.Row) { x.Shade-- })
	turn(func(x *api.Row) { x.Gone, x.Shade = x.Gone+1, x.Shade+1 })
	turn(func(x *api.Row) { x.Cols = append(x.Cols, api.Col{}) })
	turn(func(x *api.Row) { x.Cols = append([]api.Col{{}}, x.Cols...) })
	cells(func(x *api.Row) *api.Cell { return &x.Live })
	for i := range r.Cols {
		turn(func(x *api.Row) { x.Cols[i].Name += "x" })
		turn(func(x *api.Row) { x.Cols = slices.Delete(x.Cols, i, i+1) })
		cells(func(x *api.Row) *api.Cell { return &x.Cols[i].Cell })
	}
	return rows
}

func TestSame(t *testing.T) {
	for _, r := range []api.Row{
		{},
		{Key: "k", Live: api.Cell{At: 5, End: 9}, Gone: 3, Shade: 4, Cols: []api.Col{alive("a", "x", 1), dead("b", 2), ends("c", "", 3, 4)}},
		{Key: xs(400), Cols: many(api.MaxCols)},
		{Key: xs(401), Live: api.Cell{Val: "x", Dead: true, At: -1, End: -1}, Gone: -7, Shade: math.MaxInt, Cols: []api.Col{alive("b", "x", -1), alive("a", "y", 0), alive("", xs(101), math.MaxInt)}},
		{Gone: math.MinInt, Shade: api.MaxStamp + 1, Cols: many(30)},
	} {
		if !Same(r, r) || !Same(r, copied(r)) || !Same(copied(r), r) {
			t.Errorf("%+v: not alike", r)
		}
		for _, x := range turned(r) {
			if Same(r, x) || Same(x, r) {
				t.Errorf("%+v and %+v: alike", r, x)
			}
		}
	}
}

func TestSameOfLists(t *testing.T) {
	a, b := alive("a", "x", 1), alive("b", "y", 2)
	for _, x := range []struct {
		what string
		a, b []api.Col
		want bool
	}{
		{"nil and empty", nil, []api.Col{}, true},
		{"another order", []api.Col{a, b}, []api.Col{b, a}, false},
		{"one twice", []api.Col{a, a}, []api.Col{a}, false},
		{"one twice in both", []api.Col{a, a}, []api.Col{a, a}, true},
		{"the one twice, or the other", []api.Col{a, a, b}, []api.Col{a, b, b}, false},
		{"with room behind", append(make([]api.Col, 0, 9), a), []api.Col{a}, true},
		{"names and cells crossed", []api.Col{alive("a", "y", 2), alive("b", "x", 1)}, []api.Col{a, b}, false},
	} {
		r, s := api.Row{Key: "k", Cols: x.a}, api.Row{Key: "k", Cols: x.b}
		if Same(r, s) != x.want || Same(s, r) != x.want {
			t.Errorf("%s: not %t", x.what, x.want)
		}
	}
}

func TestSameOfMany(t *testing.T) {
	r := rand.New(rand.NewSource(75))
	for range 20000 {
		a, b := whatever(r), whatever(r)
		if r.Intn(2) == 0 {
			a, b = some(r, "k"), some(r, "k")
			b.Cols = slices.Clone(a.Cols)
		}
		if got := Same(a, b); got != equal(a, b) {
			t.Fatalf("%+v and %+v: %t", a, b, got)
		}
	}
}

// Of whatever rows nothing panics, and nothing that is handed in is changed.
func TestWhateverRows(t *testing.T) {
	r := rand.New(rand.NewSource(76))
	ns := numbers()
	for range 20000 {
		a, b := whatever(r), whatever(r)
		wasA, wasB := copied(a), copied(b)
		part, now := ns[r.Intn(len(ns))], ns[r.Intn(len(ns))]
		if Check(a) && !may(a) {
			t.Fatalf("%+v may be", a)
		}
		if got := Join(a, b); got.Key != a.Key || got.Live != cell.Join(a.Live, b.Live) || got.Gone != max(a.Gone, b.Gone) || got.Shade != max(a.Shade, b.Shade) {
			t.Fatalf("%+v and %+v: %+v", a, b, got)
		}
		if got := Gone(a, part); got < a.Gone || got < part || got != a.Gone && got != part {
			t.Fatalf("%+v, %d: gone %d", a, part, got)
		}
		if !Same(a, wasA) || Same(a, b) != equal(a, b) {
			t.Fatalf("%+v and %+v: same %t", a, b, Same(a, b))
		}
		for _, name := range []string{"a", "", "\xff"} {
			Cell(a, name)
			Best(a, part, name)
		}
		Seen(a, part, now)
		Is(a, part, now, r.Intn(2) == 0)
		if !equal(a, wasA) || !equal(b, wasB) {
			t.Fatalf("%+v and %+v are others now: %+v and %+v", wasA, wasB, a, b)
		}
	}
}

// may is Check told part by part, of names of the few of whatever rows.
func may(r api.Row) bool {
	in := func(n int) bool { return n >= 0 && n <= api.MaxStamp }
	if len(r.Key) > 400 || !in(r.Live.At) || !in(r.Live.End) || r.Live.Val != "" || r.Live.Dead || r.Live.At == 0 && r.Live.End != 0 || !in(r.Gone) || !in(r.Shade) {
		return false
	}
	names := ""
	for _, c := range r.Cols {
		names += c.Name + ","
		x := c.Cell
		if x.At == 0 || !in(x.At) || x.Dead && (x.Val != "" || x.End != 0) || !in(x.End) || len(x.Val) > 100 {
			return false
		}
	}
	return slices.Contains([]string{"", "a,", "b,", "a,b,"}, names)
}

func TestCheckOfWhateverRows(t *testing.T) {
	r := rand.New(rand.NewSource(77))
	yes := 0
	for range 100000 {
		x := whatever(r)
		if n := r.Intn(3); n < len(x.Cols) {
			x.Cols = x.Cols[:n]
		}
		if Check(x) != may(x) {
			t.Fatalf("%+v: %t", x, Check(x))
		}
		if may(x) {
			yes++
		}
	}
	if yes < 100 {
		t.Errorf("only %d rows may be", yes)
	}
}

// P7.3

func TestJoinOfThree(t *testing.T) {
	r := rand.New(rand.NewSource(78))
	rows := []api.Row{{Key: "k"}}
	for range 24 {
		rows = append(rows, some(r, "k"))
	}
	for _, a := range rows {
		for _, b := range rows {
			if !Same(Join(a, b), Join(b, a)) || !Same(Join(a, Join(a, b)), Join(a, b)) || !Same(Join(Join(a, b), b), Join(a, b)) {
				t.Fatalf("%+v, %+v: the order, or how often, tells", a, b)
			}
			for _, c := range rows {
				if !Same(Join(Join(a, b), c), Join(a, Join(b, c))) {
					t.Fatalf("%+v, %+v, %+v: how they are bracketed tells", a, b, c)
				}
			}
		}
		if !Same(Join(a, a), a) || !Same(Join(a, api.Row{}), a) || !Same(Join(api.Row{Key: "k"}, a), a) {
			t.Fatalf("%+v: with itself, or with nothing, it is another", a)
		}
	}
}

// bracketed joins all of a list, split anywhere, and each part of it split anywhere.
func bracketed(r *rand.Rand, rows []api.Row) api.Row {
	if len(rows) == 1 {
		return rows[0]
	}
	cut := 1 + r.Intn(len(rows)-1)
	return Join(bracketed(r, rows[:cut]), bracketed(r, rows[cut:]))
}

func TestJoinInAnyOrder(t *testing.T) {
	r := rand.New(rand.NewSource(79))
	for range 2000 {
		rows := make([]api.Row, 1+r.Intn(10))
		for i := range rows {
			rows[i] = some(r, "k")
		}
		want := rows[0]
		for _, x := range rows[1:] {
			want = joined(want, x)
		}
		for range 5 {
			again := slices.Clone(rows)
			for range r.Intn(6) {
				again = append(again, rows[r.Intn(len(rows))])
			}
			r.Shuffle(len(again), func(i, k int) { again[i], again[k] = again[k], again[i] })
			if got := bracketed(r, again); !Same(got, want) {
				t.Fatalf("%d rows joined: %+v, not %+v", len(again), got, want)
			}
		}
	}
}

// What is gone up to a stamp stays gone: whatever of that stamp, or an older one, is joined behind it is not seen.
func TestGoneStaysGone(t *testing.T) {
	r := rand.New(rand.NewSource(80))
	for range 20000 {
		gone, part, now := 1+r.Intn(5), r.Intn(7)-1, r.Intn(8)-1
		x := api.Row{Key: "k", Gone: gone}
		for range 1 + r.Intn(6) {
			x = Join(x, some(r, "k"))
		}
		if Gone(x, part) < gone {
			t.Fatalf("%+v, %d: gone %d, not %d", x, part, Gone(x, part), gone)
		}
		for _, c := range Seen(x, part, now) {
			if best, ok := Best(x, part, c.Name); !ok || best != c.Cell || c.Cell.At <= gone {
				t.Fatalf("%+v, %d, %d: %+v is seen", x, part, now, c)
			}
		}
		if Is(x, part, now, true) && x.Live.At <= gone {
			t.Fatalf("%+v, %d, %d: it is there", x, part, now)
		}
	}
}

func TestGoneStaysGoneForOlderStamps(t *testing.T) {
	r := rand.New(rand.NewSource(81))
	later := api.Row{Key: "k", Live: api.Cell{At: 6}, Cols: []api.Col{alive("b", "late", 6)}}
	for range 5000 {
		x := api.Row{Key: "k", Gone: 5}
		for range 1 + r.Intn(6) {
			old := some(r, "k")
			if r.Intn(2) == 0 {
				x = Join(x, old)
			} else {
				x = Join(old, x)
			}
		}
		if len(Seen(x, 0, 0)) > 0 || Is(x, 0, 0, false) {
			t.Fatalf("%+v is there", x)
		}
		x = Join(x, later)
		if got := Seen(x, 0, 0); !slices.Equal(got, later.Cols) || !Is(x, 0, 0, true) {
			t.Fatalf("%+v: what is later is not there alone: %+v", x, got)
		}
	}
}
