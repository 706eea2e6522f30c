package cell

import (
	"math"
	"math/rand"
	"slices"
	"strconv"
	"strings"
	"testing"

	"clerestory/api"
)

// show is a cell as a text.
func show(c api.Cell) string {
	return "{" + strconv.Quote(c.Val) + " dead " + strconv.FormatBool(c.Dead) + " at " + strconv.Itoa(c.At) + " end " + strconv.Itoa(c.End) + "}"
}

// xs is a text of so many letters.
func xs(n int) string {
	return strings.Repeat("x", n)
}

// numbers are stamps that may be and that may not.
func numbers() []int {
	return []int{math.MinInt, -api.MaxStamp, -1, 0, 1, 5, api.MaxStamp - 1, api.MaxStamp, api.MaxStamp + 1, math.MaxInt}
}

// vals are values that may be and that may not.
func vals() []string {
	return []string{"", "\x00", "a", "ab", "b", "\x7f", "\x80", "é", "\xff", xs(api.MaxText), xs(api.MaxText + 1)}
}

// all are cells of each of these, whether they may be or not.
func all() []api.Cell {
	var cells []api.Cell
	for _, at := range numbers() {
		for _, dead := range []bool{false, true} {
			for _, val := range vals() {
				for _, end := range numbers() {
					cells = append(cells, api.Cell{Val: val, Dead: dead, At: at, End: end})
				}
			}
		}
	}
	return cells
}

// some are so many cells of few values, so that often all but one of the four are alike.
func some(r *rand.Rand, n int) []api.Cell {
	cells := make([]api.Cell, n)
	for i := range cells {
		cells[i] = api.Cell{
			Val:  []string{"", "a", "ab", "b", "\xff"}[r.Intn(5)],
			Dead: r.Intn(2) == 0,
			At:   []int{-1, 0, 1, 2, api.MaxStamp + 1}[r.Intn(5)],
			End:  []int{math.MinInt, -1, 0, 1, 2, math.MaxInt}[r.Intn(6)],
		}
	}
	return cells
}

// P6.1

func TestCheck(t *testing.T) {
	every := make([]byte, 0, api.MaxText)
	for i := range api.MaxText {
		every = append(every, byte(255-i))
	}
	for _, x := range []struct {
		what string
		c    api.Cell
		want bool
	}{
		{"nought", api.Cell{}, true},
		{"At 0 with a Val", api.Cell{Val: "x"}, false},
		{"At 0 with a Val of one 0", api.Cell{Val: "\x00"}, false},
		{"At 0 and Dead", api.Cell{Dead: true}, false},
		{"At 0 with an End", api.Cell{End: 1}, false},
		{"At 0 with the last End", api.Cell{End: api.MaxStamp}, false},
		{"At 0 with an End below 0", api.Cell{End: -1}, false},
		{"At below 0", api.Cell{At: -1}, false},
		{"the least At", api.Cell{At: math.MinInt}, false},
		{"At below 0, dead", api.Cell{At: -1, Dead: true}, false},
		{"At 1", api.Cell{At: 1}, true},
		{"At 1 with all", api.Cell{Val: "x", At: 1, End: 1}, true},
		{"At MaxStamp", api.Cell{Val: "x", At: api.MaxStamp, End: 1}, true},
		{"At MaxStamp, dead", api.Cell{Dead: true, At: api.MaxStamp}, true},
		{"At above MaxStamp", api.Cell{At: api.MaxStamp + 1}, false},
		{"At above MaxStamp, dead", api.Cell{Dead: true, At: api.MaxStamp + 1}, false},
		{"the greatest At", api.Cell{At: math.MaxInt}, false},
		{"dead", api.Cell{Dead: true, At: 1}, true},
		{"dead with a Val", api.Cell{Val: "x", Dead: true, At: 1}, false},
		{"dead with an End", api.Cell{Dead: true, At: 1, End: 1}, false},
		{"dead with a later End", api.Cell{Dead: true, At: 1, End: api.MaxStamp}, false},
		{"dead with an End below 0", api.Cell{Dead: true, At: 1, End: -1}, false},
		{"dead with both", api.Cell{Val: "x", Dead: true, At: 1, End: 1}, false},
		{"a Val of MaxText bytes", api.Cell{Val: xs(api.MaxText), At: 1}, true},
		{"a Val of one more", api.Cell{Val: xs(api.MaxText + 1), At: 1}, false},
		{"a Val of MaxText bytes, of 50 letters", api.Cell{Val: strings.Repeat("é", api.MaxText/2), At: 1}, true},
		{"a Val of 51 letters of two bytes", api.Cell{Val: strings.Repeat("é", api.MaxText/2+1), At: 1}, false},
		{"a Val of bytes that are no letters", api.Cell{Val: string(every), At: 1, End: 2}, true},
		{"a Val of zeros", api.Cell{Val: "\x00\x00", At: 1}, true},
		{"End 0", api.Cell{Val: "x", At: 5}, true},
		{"End below At", api.Cell{Val: "x", At: 5, End: 4}, true},
		{"End MaxStamp", api.Cell{Val: "x", At: 5, End: api.MaxStamp}, true},
		{"End above MaxStamp", api.Cell{Val: "x", At: 5, End: api.MaxStamp + 1}, false},
		{"the greatest End", api.Cell{Val: "x", At: 5, End: math.MaxInt}, false},
		{"End below 0", api.Cell{Val: "x", At: 5, End: -1}, false},
		{"the least End", api.Cell{Val: "x", At: 5, End: math.MinInt}, false},
	} {
		if got := Check(x.c); got != x.want {
			t.Errorf("%s: %s: %t", x.what, show(x.c), got)
		}
	}
}

// may tells whether a cell may be, as the document has it, told part by part.
func may(c api.Cell) bool {
	nought := c.Val == "" && !c.Dead && c.End == 0
	if c.At < 0 || c.At > api.MaxStamp || (c.At == 0 && !nought) {
		return false
	}
	if c.Dead {
		return c.Val == "" && c.End == 0
	}
	return len(c.Val) < api.MaxText+1 && c.End > -1 && c.End < api.MaxStamp+1
}

func TestCheckOfAll(t *testing.T) {
	for _, c := range all() {
		if Check(c) != may(c) {
			t.Errorf("%s: %t", show(c), Check(c))
		}
	}
}

// rising are lists of cells, each cell above those ahead of it, in which all but what a list is named for is alike ahead of it.
func rising() []struct {
	what  string
	cells []api.Cell
} {
	type chain = struct {
		what  string
		cells []api.Cell
	}
	return []chain{
		{"At", []api.Cell{{At: math.MinInt}, {At: -1}, {}, {At: 1}, {At: 2}, {At: api.MaxStamp}, {At: math.MaxInt}}},
		{"At, though all else is the other way", []api.Cell{{Val: "z", Dead: true, At: -1}, {Val: "y", Dead: true, End: 9}, {Val: "y", At: 1}, {Val: "x", At: 2, End: 9}, {At: 3, End: 8}}},
		{"Dead", []api.Cell{{At: 5}, {Dead: true, At: 5}}},
		{"Dead of At 0", []api.Cell{{}, {Dead: true}}},
		{"Dead, though all else is the other way", []api.Cell{{Val: "x", At: 5}, {Dead: true, At: 5, End: 1}}},
		{"Dead, though what is alive is above any other", []api.Cell{{Val: xs(101), At: -5}, {Dead: true, At: -5, End: math.MinInt}}},
		{"Val", []api.Cell{{At: 5}, {Val: "\x00", At: 5}, {Val: "\x00\x00", At: 5}, {Val: "A", At: 5}, {Val: "a", At: 5}, {Val: "a\x00", At: 5}, {Val: "aa", At: 5}, {Val: "ab", At: 5}, {Val: "b", At: 5}, {Val: "\x7f", At: 5}, {Val: "\x7f\xff", At: 5}, {Val: "\x80", At: 5}, {Val: "é", At: 5}, {Val: "\xff", At: 5}, {Val: "\xff\x00", At: 5}, {Val: "\xff\xff", At: 5}}},
		{"Val of bytes, not of letters", []api.Cell{{Val: "\U00010000", At: 5}, {Val: "\xff", At: 5}}},
		{"Val, though End is the other way", []api.Cell{{Val: "a", At: 5}, {Val: "ab", At: 5, End: 9}, {Val: "b", At: 5, End: 8}}},
		{"Val of what is dead", []api.Cell{{Dead: true, At: 5}, {Val: "a", Dead: true, At: 5, End: 9}, {Val: "b", Dead: true, At: 5, End: 8}}},
		{"Val of At 0", []api.Cell{{}, {Val: "a", End: 1}, {Val: "b", End: -1}}},
		{"End", []api.Cell{{Val: "x", At: 5, End: math.MinInt}, {Val: "x", At: 5, End: -1}, {Val: "x", At: 5, End: 1}, {Val: "x", At: 5, End: 2}, {Val: "x", At: 5, End: api.MaxStamp}, {Val: "x", At: 5, End: math.MaxInt}, {Val: "x", At: 5}}},
		{"End of what is dead", []api.Cell{{Dead: true, At: 5, End: -1}, {Dead: true, At: 5, End: 1}, {Dead: true, At: 5}}},
		{"End of At 0", []api.Cell{{End: -1}, {End: 1}, {}}},
		{"the document's example", []api.Cell{{Val: "x", At: 5}, {Dead: true, At: 5}}},
	}
}

func TestCmpAndJoinAndSame(t *testing.T) {
	for _, r := range rising() {
		for i, a := range r.cells {
			for k, b := range r.cells {
				want := max(-1, min(1, i-k))
				if got := Cmp(a, b); got != want {
					t.Errorf("%s: Cmp(%s, %s): %d", r.what, show(a), show(b), got)
				}
				if got := Join(a, b); got != r.cells[max(i, k)] {
					t.Errorf("%s: Join(%s, %s): %s", r.what, show(a), show(b), show(got))
				}
				if got := Same(a, b); got != (i == k) {
					t.Errorf("%s: Same(%s, %s): %t", r.what, show(a), show(b), got)
				}
			}
		}
	}
}

// compared is Cmp told as the document tells it, one thing behind the other.
func compared(a, b api.Cell) int {
	below := func(is bool) int {
		if is {
			return -1
		}
		return 1
	}
	if a.At != b.At {
		return below(a.At < b.At)
	}
	if a.Dead != b.Dead {
		return below(b.Dead)
	}
	for i := range min(len(a.Val), len(b.Val)) {
		if a.Val[i] != b.Val[i] {
			return below(a.Val[i] < b.Val[i])
		}
	}
	if len(a.Val) != len(b.Val) {
		return below(len(a.Val) < len(b.Val))
	}
	if a.End == b.End {
		return 0
	}
	return below(b.End == 0 || (a.End != 0 && a.End < b.End))
}

func TestCmpOfMany(t *testing.T) {
	r := rand.New(rand.NewSource(61))
	every := all()
	for range 200000 {
		a, b := every[r.Intn(len(every))], every[r.Intn(len(every))]
		if r.Intn(2) == 0 {
			pair := some(r, 2)
			a, b = pair[0], pair[1]
		}
		want := compared(a, b)
		if Cmp(a, b) != want || Cmp(b, a) != -want {
			t.Fatalf("%s, %s: %d and %d, not %d", show(a), show(b), Cmp(a, b), Cmp(b, a), want)
		}
		above := a
		if want < 0 {
			above = b
		}
		if Join(a, b) != above || Join(b, a) != above {
			t.Fatalf("%s, %s joined: %s and %s", show(a), show(b), show(Join(a, b)), show(Join(b, a)))
		}
		if Same(a, b) != (want == 0) {
			t.Fatalf("%s, %s: same %t", show(a), show(b), Same(a, b))
		}
	}
}

func TestOfOneTwice(t *testing.T) {
	for _, c := range all() {
		other := c
		other.Val = strings.Clone(c.Val)
		if Cmp(c, other) != 0 || Join(c, other) != c || !Same(c, other) {
			t.Fatalf("%s: %d, %s, %t", show(c), Cmp(c, other), show(Join(c, other)), Same(c, other))
		}
	}
}

func TestSame(t *testing.T) {
	for _, c := range []api.Cell{{}, {At: 1}, {Val: "x", At: 5, End: 9}, {Dead: true, At: 5}, {Val: "x", Dead: true, At: -1, End: -1}} {
		val, dead, at, end := c, c, c, c
		val.Val += "\x00"
		dead.Dead = !dead.Dead
		at.At++
		end.End--
		for i, other := range []api.Cell{val, dead, at, end} {
			if Same(c, other) || Same(other, c) {
				t.Errorf("%s: alike, though the %d. is another", show(c), i)
			}
		}
		if !Same(c, c) {
			t.Errorf("%s: not alike", show(c))
		}
	}
}

func TestSeen(t *testing.T) {
	for _, x := range []struct {
		what string
		c    api.Cell
		now  int
		want bool
	}{
		{"nought", api.Cell{}, 0, false},
		{"nought, before 0", api.Cell{}, -1, false},
		{"for ever, at 0", api.Cell{At: 5}, 0, true},
		{"for ever, at its stamp", api.Cell{At: 5}, 5, true},
		{"for ever, before all", api.Cell{At: 5}, math.MinInt, true},
		{"for ever, behind all", api.Cell{At: 5}, math.MaxInt, true},
		{"before End", api.Cell{Val: "x", At: 5, End: 9}, 8, true},
		{"long before End", api.Cell{Val: "x", At: 5, End: 9}, math.MinInt, true},
		{"before its stamp", api.Cell{Val: "x", At: 5, End: 9}, 1, true},
		{"at End", api.Cell{Val: "x", At: 5, End: 9}, 9, false},
		{"behind End", api.Cell{Val: "x", At: 5, End: 9}, 10, false},
		{"long behind End", api.Cell{Val: "x", At: 5, End: 9}, math.MaxInt, false},
		{"before End 1", api.Cell{At: 1, End: 1}, 0, true},
		{"before the last End", api.Cell{At: 1, End: api.MaxStamp}, api.MaxStamp - 1, true},
		{"at the last End", api.Cell{At: 1, End: api.MaxStamp}, api.MaxStamp, false},
		{"dead", api.Cell{Dead: true, At: 5}, 0, false},
		{"dead, before all", api.Cell{Dead: true, At: 5}, math.MinInt, false},
		{"dead with an End that comes", api.Cell{Dead: true, At: 5, End: 9}, 8, false},
		{"At 0 with a Val", api.Cell{Val: "x"}, 0, false},
		{"At 0 with an End that comes", api.Cell{Val: "x", End: 9}, 8, false},
		{"At below 0", api.Cell{Val: "x", At: -1}, 0, false},
		{"At below 0, before it", api.Cell{Val: "x", At: -5, End: 9}, -9, false},
		{"At 1", api.Cell{At: 1}, 0, true},
		{"At above MaxStamp", api.Cell{At: math.MaxInt}, 0, true},
		{"End below 0, at 0", api.Cell{At: 5, End: -3}, 0, false},
		{"End below 0, at it", api.Cell{At: 5, End: -3}, -3, false},
		{"End below 0, before it", api.Cell{At: 5, End: -3}, -4, true},
		{"the least End", api.Cell{At: 5, End: math.MinInt}, math.MinInt, false},
		{"the greatest End", api.Cell{At: 5, End: math.MaxInt}, math.MaxInt, false},
		{"a Val that is too long", api.Cell{Val: xs(api.MaxText + 1), At: 5, End: 9}, 8, true},
	} {
		if got := Seen(x.c, x.now); got != x.want {
			t.Errorf("%s: %s at %d: %t", x.what, show(x.c), x.now, got)
		}
	}
}

func TestSeenOfAll(t *testing.T) {
	for _, c := range all() {
		for _, now := range append(numbers(), 4, 6) {
			want := true
			if c.At <= 0 || c.Dead {
				want = false
			}
			if c.End != 0 && now >= c.End {
				want = false
			}
			if Seen(c, now) != want {
				t.Fatalf("%s at %d: %t", show(c), now, !want)
			}
		}
	}
}

// P6.2

func TestJoinOfThree(t *testing.T) {
	cells := some(rand.New(rand.NewSource(62)), 40)
	for _, a := range cells {
		for _, b := range cells {
			if Join(a, b) != Join(b, a) || Join(a, Join(a, b)) != Join(a, b) {
				t.Fatalf("%s, %s: the order, or how often, tells", show(a), show(b))
			}
			for _, c := range cells {
				if Join(Join(a, b), c) != Join(a, Join(b, c)) {
					t.Fatalf("%s, %s, %s: how they are bracketed tells", show(a), show(b), show(c))
				}
			}
		}
	}
}

// bracketed joins all of a list, split anywhere, and each part of it split anywhere.
func bracketed(r *rand.Rand, cells []api.Cell) api.Cell {
	if len(cells) == 1 {
		return cells[0]
	}
	cut := 1 + r.Intn(len(cells)-1)
	return Join(bracketed(r, cells[:cut]), bracketed(r, cells[cut:]))
}

func TestJoinOfMany(t *testing.T) {
	r := rand.New(rand.NewSource(63))
	every := all()
	for range 2000 {
		cells := some(r, 1+r.Intn(12))
		if r.Intn(2) == 0 {
			cells = append(cells, every[r.Intn(len(every))], every[r.Intn(len(every))])
		}
		most := slices.MaxFunc(cells, compared)
		for range 5 {
			again := slices.Clone(cells)
			for range r.Intn(6) {
				again = append(again, cells[r.Intn(len(cells))])
			}
			r.Shuffle(len(again), func(i, k int) { again[i], again[k] = again[k], again[i] })
			if got := bracketed(r, again); got != most {
				t.Fatalf("%d cells joined: %s, not %s", len(again), show(got), show(most))
			}
		}
	}
}

// With the calls of P6.1 alone: what is joined is one of those that went in, and none of them is above it.
func TestJoinIsAboveAll(t *testing.T) {
	r := rand.New(rand.NewSource(64))
	for range 2000 {
		cells := some(r, 1+r.Intn(12))
		joined := bracketed(r, cells)
		in := func(c api.Cell) bool { return Same(c, joined) }
		beyond := func(c api.Cell) bool { return Cmp(c, joined) > 0 }
		if !slices.ContainsFunc(cells, in) || slices.ContainsFunc(cells, beyond) {
			t.Fatalf("%d cells joined: %s", len(cells), show(joined))
		}
	}
}
