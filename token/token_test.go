package token

import (
	"math"
	"math/big"
	"slices"
	"strings"
	"testing"
)

// texts are ordinary ones, edges, and all of two bytes of some.
func texts() []string {
	list := []string{"", "a", "abc", "the ring", "\u00e9\u20ac\U0001f600", "\xc3", "\x00\x00\x00\x00\x00", "\xff\xff\xff\xff\xff",
		strings.Repeat("a", 1000), strings.Repeat("\x00", 1000), strings.Repeat("\xff", 1000), strings.Repeat("long\x00\xff", 20000)}
	for b := range 256 {
		list = append(list, string([]byte{byte(b)}))
	}
	some := []byte{0, 1, 2, 97, 127, 128, 254, 255}
	for _, x := range some {
		for _, y := range some {
			list = append(list, string([]byte{x, y}))
		}
	}
	return list
}

// places are numbers next to the ends of the ring, on it, and far from it.
func places() []int {
	return []int{math.MinInt, math.MinInt + 1, math.MinInt32, -Ring, -300, -1, 0, 1, 2, 255, 256, 257, 300, 65535, 65536, 1<<24 - 1, 1 << 24, 0x01020304, 1 << 30,
		Ring - 2, Ring - 1, Ring, Ring + 1, 1<<31 + 1, math.MaxUint32, math.MaxUint32 + 1, 1 << 40, math.MaxInt - 1, math.MaxInt}
}

// onRing is the place that a number is cut to.
func onRing(t int) int {
	if t < 0 {
		return 0
	}
	if t >= 2147483647 {
		return 2147483646
	}
	return t
}

// far is where a text takes a place, by one great sum of powers and one rest at its end.
func far(t int, s string) int {
	sum := big.NewInt(int64(onRing(t)))
	for i := range len(s) {
		sum.Mul(sum, big.NewInt(257))
		sum.Add(sum, big.NewInt(int64(s[i])+1))
	}
	return int(sum.Mod(sum, big.NewInt(2147483647)).Int64())
}

// P3.1

func TestRing(t *testing.T) {
	if Ring != 2147483647 {
		t.Errorf("Ring: %d", Ring)
	}
}

func TestOf(t *testing.T) {
	for _, x := range []struct {
		s    string
		want int
	}{
		{"", 1},
		{"a", 355},
		{"\x00", 258},
		{"\xff", 513},
		{"\x00\x00", 66307},
		{"\xff\xff", 132097},
		{"ab", 91334},
		{"ba", 91590},
		{"abc", 23472938},
		{"abcd", 1737577873},
	} {
		if got := Of(x.s); got != x.want {
			t.Errorf("Of(%q): %d", x.s, got)
		}
	}
}

func TestOfIsTheRestOfASum(t *testing.T) {
	for _, s := range texts() {
		if len(s) > 2000 {
			continue // the sum of a very long one is too great
		}
		if got, want := Of(s), far(1, s); got != want {
			t.Errorf("Of(%q): %d, not %d", s, got, want)
		}
	}
}

func TestMore(t *testing.T) {
	for _, x := range []struct {
		t    int
		s    string
		want int
	}{
		{1, "", 1},
		{1, "a", 355},
		{355, "b", 91334},
		{0, "", 0},
		{0, "\x00", 1},
		{0, "a", 98},
		{-1, "", 0},
		{-1, "a", 98},
		{math.MinInt, "", 0},
		{math.MinInt, "a", 98},
		{Ring - 2, "", Ring - 2},
		{Ring - 1, "", Ring - 1},
		{Ring - 1, "\x00", Ring - 256},
		{Ring - 1, "\xfe", Ring - 2},
		{Ring - 1, "\xff", Ring - 1},
		{Ring, "", Ring - 1},
		{Ring, "\x00", Ring - 256},
		{Ring + 1, "\x00", Ring - 256},
		{2 * Ring, "\x00", Ring - 256},
		{math.MaxInt, "", Ring - 1},
		{math.MaxInt, "\xff", Ring - 1},
	} {
		if got := More(x.t, x.s); got != x.want {
			t.Errorf("More(%d, %q): %d", x.t, x.s, got)
		}
	}
	for _, at := range places() {
		for _, s := range []string{"", "a", "\x00", "\xff", "a key", strings.Repeat("\xff", 100)} {
			if got, want := More(at, s), far(at, s); got != want {
				t.Errorf("More(%d, %q): %d, not %d", at, s, got, want)
			}
		}
	}
}

func TestMoreGoesOn(t *testing.T) {
	for _, s := range texts() {
		whole := Of(s)
		if whole < 0 || whole >= Ring {
			t.Errorf("Of(%q): %d", s, whole)
		}
		if got := More(1, s); got != whole {
			t.Errorf("More(1, %q): %d, not %d", s, got, whole)
		}
		for i := range min(len(s), 200) + 1 {
			if got := More(Of(s[:i]), s[i:]); got != whole {
				t.Errorf("More(Of(%q), %q): %d, not %d", s[:i], s[i:], got, whole)
			}
		}
	}
}

func TestCallsHaveNothingInCommon(t *testing.T) {
	first := Of("a key")
	More(77, "another")
	Bytes(12)
	if again := Of("a key"); again != first {
		t.Errorf("Of: %d, then %d", first, again)
	}
}

func TestBytes(t *testing.T) {
	for _, x := range []struct {
		t    int
		want string
	}{
		{0, "\x00\x00\x00\x00"},
		{1, "\x00\x00\x00\x01"},
		{255, "\x00\x00\x00\xff"},
		{256, "\x00\x00\x01\x00"},
		{355, "\x00\x00\x01\x63"},
		{65536, "\x00\x01\x00\x00"},
		{0x01020304, "\x01\x02\x03\x04"},
		{0x7f80ff01, "\x7f\x80\xff\x01"},
		{Ring - 2, "\x7f\xff\xff\xfd"},
		{Ring - 1, "\x7f\xff\xff\xfe"},
		{Ring, "\x7f\xff\xff\xfe"},
		{Ring + 1, "\x7f\xff\xff\xfe"},
		{math.MaxUint32 + 1, "\x7f\xff\xff\xfe"},
		{math.MaxInt, "\x7f\xff\xff\xfe"},
		{-1, "\x00\x00\x00\x00"},
		{-Ring, "\x00\x00\x00\x00"},
		{math.MinInt, "\x00\x00\x00\x00"},
	} {
		if got := Bytes(x.t); got != x.want {
			t.Errorf("Bytes(%d): %x", x.t, got)
		}
	}
}

func TestNumber(t *testing.T) {
	for _, x := range []struct {
		s    string
		want int
		ok   bool
	}{
		{"\x00\x00\x00\x00", 0, true},
		{"\x00\x00\x00\x01", 1, true},
		{"\x00\x00\x01\x63", 355, true},
		{"\x01\x02\x03\x04", 0x01020304, true},
		{"abcd", 0x61626364, true},
		{"\x7f\xff\xff\xfd", Ring - 2, true},
		{"\x7f\xff\xff\xfe", Ring - 1, true},
		{"\x7f\xff\xff\xff", 0, false},
		{"\x80\x00\x00\x00", 0, false},
		{"\x80\x00\x00\x01", 0, false},
		{"\xff\xff\xff\xff", 0, false},
		{"", 0, false},
		{"\x01", 0, false},
		{"\x00\x00\x00", 0, false},
		{"\x01\x02\x03", 0, false},
		{"\x00\x00\x00\x00\x01", 0, false},
		{"\x01\x02\x03\x04\x05", 0, false},
		{"\x00\x00\x00\x00\x00\x00\x00\x01", 0, false},
		{strings.Repeat("\x00", 1000), 0, false},
	} {
		if got, ok := Number(x.s); got != x.want || ok != x.ok {
			t.Errorf("Number(%x): %d, %v", x.s, got, ok)
		}
	}
}

func TestNumberIsBack(t *testing.T) {
	for _, at := range places() {
		if got, ok := Number(Bytes(at)); got != onRing(at) || !ok {
			t.Errorf("Number(Bytes(%d)): %d, %v", at, got, ok)
		}
	}
	for _, s := range texts() {
		if got, ok := Number(Bytes(Of(s))); got != Of(s) || !ok {
			t.Errorf("Number(Bytes(Of(%q))): %d, %v", s, got, ok)
		}
	}
}

func TestBytesStandAsPlacesDo(t *testing.T) {
	list := places()
	slices.Sort(list)
	for i := range list {
		for k := range i {
			if ahead := Bytes(list[k]) < Bytes(list[i]); ahead != (onRing(list[k]) < onRing(list[i])) {
				t.Errorf("Bytes(%d), Bytes(%d): %x, %x", list[k], list[i], Bytes(list[k]), Bytes(list[i]))
			}
		}
	}
}

// P3.2

func TestATurnedByteTurnsTheToken(t *testing.T) {
	for _, s := range []string{"a", "\x00", "\xff", "ab", "abcd", "a key of a table", "\x00\x00\x00\x00\x00\x00", "\xff\xff\xff\xff\xff\xff", strings.Repeat("long ", 40)} {
		whole := Of(s)
		for i := range len(s) {
			turned := []byte(s)
			for b := range 256 {
				turned[i] = byte(b)
				if same := Of(string(turned)) == whole; same != (byte(b) == s[i]) {
					t.Errorf("Of(%q) and Of(%q): same %v", s, turned, same)
				}
			}
		}
	}
}

func TestATurnedByteTurnsAPlace(t *testing.T) {
	for _, at := range places() {
		seen := make(map[int]int)
		for b := range 256 {
			got := More(at, string([]byte{byte(b)}))
			if other, ok := seen[got]; ok {
				t.Errorf("More(%d): %d and %d go to %d", at, other, b, got)
			}
			seen[got] = b
		}
	}
}
