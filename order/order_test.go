package order

import (
	"bytes"
	"math"
	"slices"
	"strings"
	"testing"

	"clerestory/api"
)

// fronts are bytes behind which things are put.
var fronts = []string{"", "\x00", "ab", "\x00\x01", "\x08\xff", "\x00\xff\x00"}

// tails are bytes that may stand behind what is put.
var tails = []string{"", "\x00", "\x00\x00", "\x01", "\x00\x01", "\x00\xff", "a", "\xff", strings.Repeat("\x00", 12), strings.Repeat("\xff", 12)}

// eachShort calls f with every list of up to most of the bytes of some.
func eachShort(some string, most int, f func(b []byte)) {
	var grow func(b []byte)
	grow = func(b []byte) {
		f(slices.Clone(b))
		if len(b) == most {
			return
		}
		for i := range len(some) {
			grow(append(slices.Clone(b), some[i]))
		}
	}
	grow(nil)
}

// edges are numbers, rising: those next to each power of two.
func edges() []uint64 {
	list := []uint64{0, 300, 1000, 0x0102030405060708, 0xff00ff00ff00ff00, math.MaxUint64}
	for k := range 64 {
		list = append(list, 1<<k-1, 1<<k, 1<<k+1)
	}
	slices.Sort(list)
	return slices.Compact(list)
}

// wholes are whole numbers, rising, on both sides of 0.
func wholes() []int {
	list := []int{math.MinInt}
	for _, v := range edges() {
		if v <= math.MaxInt {
			list = append(list, int(v), -int(v))
		}
	}
	slices.Sort(list)
	return slices.Compact(list)
}

// texts are all short ones of the bytes that matter, rising.
func texts() []string {
	list := []string{strings.Repeat("a", 1000), strings.Repeat("\x00", 1000), "\u00e9\u20ac"}
	eachShort("\x00\x01\x02a\xfe\xff", 3, func(b []byte) {
		list = append(list, string(b))
	})
	slices.Sort(list)
	return list
}

// rising tells of the things of a list, rising, whose bytes do not stand in their order, whatever stands behind them.
func rising[T any](t *testing.T, what string, list []T, put func(v T) string) {
	t.Helper()
	behind := make([][]string, len(list))
	for i, v := range list {
		for _, tail := range tails {
			behind[i] = append(behind[i], put(v)+tail)
		}
	}
	for i := range list {
		for k := range i {
			if least, greatest := slices.Min(behind[i]), slices.Max(behind[k]); greatest >= least {
				t.Errorf("%s: %x of %v is not ahead of %x of %v", what, greatest, list[k], least, list[i])
			}
		}
	}
}

// alone tells of a call that puts something behind bytes, and changes them or their spare room, or hands them out.
func alone(t *testing.T, what string, put func(b []byte) []byte) {
	t.Helper()
	const length, room = 3, 40
	given := make([]byte, room)
	for i := range given {
		given[i] = 77
	}
	before := slices.Clone(given)
	first := put(given[:length])
	second := put(given[:length])
	if !bytes.Equal(given, before) {
		t.Errorf("%s: what was handed in is %x now", what, given)
	}
	want := slices.Clone(second)
	for _, list := range [][]byte{first[:cap(first)], given} {
		for i := range list {
			list[i] = 88
		}
	}
	if !bytes.Equal(second, want) {
		t.Errorf("%s: two answers, or an argument, share: %x", what, second)
	}
}

// P2.1

func TestNum(t *testing.T) {
	for _, x := range []struct {
		v    uint64
		want string
	}{
		{0, "\x00"},
		{1, "\x01\x01"},
		{8, "\x01\x08"},
		{9, "\x01\x09"},
		{255, "\x01\xff"},
		{256, "\x02\x01\x00"},
		{300, "\x02\x01\x2c"},
		{65535, "\x02\xff\xff"},
		{65536, "\x03\x01\x00\x00"},
		{1<<24 - 1, "\x03\xff\xff\xff"},
		{1 << 24, "\x04\x01\x00\x00\x00"},
		{1 << 32, "\x05\x01\x00\x00\x00\x00"},
		{1 << 40, "\x06\x01\x00\x00\x00\x00\x00"},
		{1 << 48, "\x07\x01\x00\x00\x00\x00\x00\x00"},
		{1<<56 - 1, "\x07\xff\xff\xff\xff\xff\xff\xff"},
		{1 << 56, "\x08\x01\x00\x00\x00\x00\x00\x00\x00"},
		{0x0102030405060708, "\x08\x01\x02\x03\x04\x05\x06\x07\x08"},
		{math.MaxInt64, "\x08\x7f\xff\xff\xff\xff\xff\xff\xff"},
		{math.MaxUint64, "\x08\xff\xff\xff\xff\xff\xff\xff\xff"},
	} {
		for _, front := range fronts {
			if got := Num([]byte(front), x.v); string(got) != front+x.want {
				t.Errorf("Num(%x, %d): %x", front, x.v, got)
			}
			for _, tail := range tails {
				b := []byte(front + x.want + tail)
				if v, next, e := GetNum(b, len(front)); v != x.v || next != len(front)+len(x.want) || e != api.OK {
					t.Errorf("GetNum(%x, %d): %d, %d, %d", b, len(front), v, next, e)
				}
			}
		}
	}
	if got := Num(nil, 300); string(got) != "\x02\x01\x2c" {
		t.Errorf("Num behind nothing: %x", got)
	}
}

func TestNumSharesNothing(t *testing.T) {
	for _, v := range []uint64{0, 5, math.MaxUint64} {
		alone(t, "Num", func(b []byte) []byte { return Num(b, v) })
	}
}

func TestGetNumErrors(t *testing.T) {
	for _, x := range []struct {
		b  string
		at int
		e  api.Errno
	}{
		{"", -1, api.ErrArg},
		{"", 1, api.ErrArg},
		{"\x00", -1, api.ErrArg},
		{"\x00", 2, api.ErrArg},
		{"\x01\x01", 3, api.ErrArg},
		{"\x01\x01", math.MaxInt, api.ErrArg},
		{"\x01\x01", math.MinInt, api.ErrArg},
		{"\x09", -1, api.ErrArg},
		{"\x09", 2, api.ErrArg},
		{"", 0, api.ErrShort},
		{"\x00", 1, api.ErrShort},
		{"\x01\x01", 2, api.ErrShort},
		{"\x01", 0, api.ErrShort},
		{"\x08", 0, api.ErrShort},
		{"\x02\x01", 0, api.ErrShort},
		{"ab\x03\x01\x02", 2, api.ErrShort},
		{"\x08\x01\x02\x03\x04\x05\x06\x07", 0, api.ErrShort},
		{"\x09", 0, api.ErrBytes},
		{"\x09\x01\x02\x03\x04\x05\x06\x07\x08\x09", 0, api.ErrBytes},
		{"\x09\x00", 0, api.ErrBytes},
		{"\x80", 0, api.ErrBytes},
		{"\xff\x01", 0, api.ErrBytes},
		{"a\xff", 1, api.ErrBytes},
		{"\x01\x00", 0, api.ErrBytes},
		{"\x02\x00", 0, api.ErrBytes},
		{"\x02\x00\x01", 0, api.ErrBytes},
		{"\x08\x00", 0, api.ErrBytes},
		{"\x08\x00\x02\x03\x04\x05\x06\x07\x08", 0, api.ErrBytes},
	} {
		if v, next, e := GetNum([]byte(x.b), x.at); v != 0 || next != 0 || e != x.e {
			t.Errorf("GetNum(%x, %d): %d, %d, %d", x.b, x.at, v, next, e)
		}
	}
	if v, next, e := GetNum(nil, 0); v != 0 || next != 0 || e != api.ErrShort {
		t.Errorf("GetNum of nothing: %d, %d, %d", v, next, e)
	}
}

// number looks for what GetNum must answer by trying every end.
func number(b []byte) (uint64, int, bool) {
	for next := 1; next <= min(len(b), 9); next++ {
		v := uint64(0)
		for _, x := range b[1:next] {
			v = v*256 + uint64(x)
		}
		if bytes.Equal(Num(nil, v), b[:next]) {
			return v, next, true
		}
	}
	return 0, 0, false
}

func TestGetNumEachShortList(t *testing.T) {
	eachShort("\x00\x01\x02\x03\x07\x08\x09\xff", 4, func(b []byte) {
		given := slices.Clone(b)
		for at := range len(b) + 1 {
			v, next, ok := number(b[at:])
			e := api.OK
			if ok {
				next += at
			} else if _, _, more := number(append(slices.Clone(b[at:]), 1, 1, 1, 1, 1, 1, 1, 1)); more {
				e = api.ErrShort
			} else {
				e = api.ErrBytes
			}
			if gotV, gotNext, gotE := GetNum(b, at); gotV != v || gotNext != next || gotE != e {
				t.Errorf("GetNum(%x, %d): %d, %d, %d, want %d, %d, %d", b, at, gotV, gotNext, gotE, v, next, e)
			}
		}
		if !bytes.Equal(b, given) {
			t.Errorf("GetNum changed %x to %x", given, b)
		}
	})
}

// P2.2

func TestText(t *testing.T) {
	for _, x := range []struct{ s, want string }{
		{"", "\x00\x01"},
		{"a", "a\x00\x01"},
		{"it's \u20ac", "it's \u20ac\x00\x01"},
		{"\x00", "\x00\xff\x00\x01"},
		{"\x00\x00", "\x00\xff\x00\xff\x00\x01"},
		{"\x00a", "\x00\xffa\x00\x01"},
		{"a\x00", "a\x00\xff\x00\x01"},
		{"a\x00\x00b", "a\x00\xff\x00\xffb\x00\x01"},
		{"\x01", "\x01\x00\x01"},
		{"\xff", "\xff\x00\x01"},
		{"\xff\x01", "\xff\x01\x00\x01"},
		{"\x00\x01", "\x00\xff\x01\x00\x01"},
		{"\x00\xff", "\x00\xff\xff\x00\x01"},
		{strings.Repeat("ab\x00", 1000), strings.Repeat("ab\x00\xff", 1000) + "\x00\x01"},
	} {
		for _, front := range fronts {
			if got := Text([]byte(front), x.s); string(got) != front+x.want {
				t.Errorf("Text(%x, %q): %x", front, x.s, got)
			}
			for _, tail := range tails {
				b := []byte(front + x.want + tail)
				if s, next, e := GetText(b, len(front)); s != x.s || next != len(front)+len(x.want) || e != api.OK {
					t.Errorf("GetText(%x, %d): %q, %d, %d", b, len(front), s, next, e)
				}
			}
		}
	}
	if got := Text(nil, "a"); string(got) != "a\x00\x01" {
		t.Errorf("Text behind nothing: %x", got)
	}
}

func TestTextSharesNothing(t *testing.T) {
	for _, s := range []string{"", "a", "\x00", "ab\x00c", strings.Repeat("a", 100)} {
		alone(t, "Text", func(b []byte) []byte { return Text(b, s) })
	}
}

func TestGetTextErrors(t *testing.T) {
	for _, x := range []struct {
		b  string
		at int
		e  api.Errno
	}{
		{"", -1, api.ErrArg},
		{"", 1, api.ErrArg},
		{"a\x00\x01", -1, api.ErrArg},
		{"a\x00\x01", 4, api.ErrArg},
		{"a\x00\x01", math.MaxInt, api.ErrArg},
		{"a\x00\x01", math.MinInt, api.ErrArg},
		{"\x00\x02", 3, api.ErrArg},
		{"", 0, api.ErrShort},
		{"a", 0, api.ErrShort},
		{"abc\x01\xff", 0, api.ErrShort},
		{"\x00", 0, api.ErrShort},
		{"a\x00", 0, api.ErrShort},
		{"a\x00\x01", 2, api.ErrShort},
		{"a\x00\x01", 3, api.ErrShort},
		{"a\x00\xff", 0, api.ErrShort},
		{"a\x00\xff\x00", 0, api.ErrShort},
		{"a\x00\xff\x01", 0, api.ErrShort},
		{"\x00\x00", 0, api.ErrBytes},
		{"\x00\x02", 0, api.ErrBytes},
		{"\x00\xfe", 0, api.ErrBytes},
		{"\x00a\x00\x01", 0, api.ErrBytes},
		{"\x00\x00\x01", 0, api.ErrBytes},
		{"a\x00\x00\x01", 0, api.ErrBytes},
		{"a\x00\xff\x00\x02\x00\x01", 0, api.ErrBytes},
		{"\x00\x01\x00\x02", 2, api.ErrBytes},
	} {
		if s, next, e := GetText([]byte(x.b), x.at); s != "" || next != 0 || e != x.e {
			t.Errorf("GetText(%x, %d): %q, %d, %d", x.b, x.at, s, next, e)
		}
	}
	for b := range 256 {
		want := api.ErrBytes
		if b == 1 || b == 255 {
			want = api.OK
		}
		if _, _, e := GetText([]byte{'a', 0, byte(b), 0, 1}, 0); e != want {
			t.Errorf("GetText with %d behind a 0: %d", b, e)
		}
	}
	if s, next, e := GetText(nil, 0); s != "" || next != 0 || e != api.ErrShort {
		t.Errorf("GetText of nothing: %q, %d, %d", s, next, e)
	}
}

// text looks for what GetText must answer by trying every end.
func text(b []byte) (string, int, bool) {
	for next := 2; next <= len(b); next++ {
		s := strings.ReplaceAll(string(b[:next-2]), "\x00\xff", "\x00")
		if bytes.Equal(Text(nil, s), b[:next]) {
			return s, next, true
		}
	}
	return "", 0, false
}

func TestGetTextEachShortList(t *testing.T) {
	eachShort("\x00\x01\x02a\xfe\xff", 5, func(b []byte) {
		given := slices.Clone(b)
		for at := range len(b) + 1 {
			s, next, ok := text(b[at:])
			e := api.OK
			_, _, after := text(append(slices.Clone(b[at:]), 0, 1))
			_, _, within := text(append(slices.Clone(b[at:]), 1))
			switch {
			case ok:
				next += at
			case after || within:
				e = api.ErrShort
			default:
				e = api.ErrBytes
			}
			if gotS, gotNext, gotE := GetText(b, at); gotS != s || gotNext != next || gotE != e {
				t.Errorf("GetText(%x, %d): %q, %d, %d, want %q, %d, %d", b, at, gotS, gotNext, gotE, s, next, e)
			}
		}
		if !bytes.Equal(b, given) {
			t.Errorf("GetText changed %x to %x", given, b)
		}
	})
}

// P2.3

func TestInt(t *testing.T) {
	for _, x := range []struct {
		v    int
		want string
	}{
		{0, "\x80\x00\x00\x00\x00\x00\x00\x00"},
		{1, "\x80\x00\x00\x00\x00\x00\x00\x01"},
		{-1, "\x7f\xff\xff\xff\xff\xff\xff\xff"},
		{300, "\x80\x00\x00\x00\x00\x00\x01\x2c"},
		{-300, "\x7f\xff\xff\xff\xff\xff\xfe\xd4"},
		{0x0102030405060708, "\x81\x02\x03\x04\x05\x06\x07\x08"},
		{api.MaxInt, "\x80\x00\x01\x00\x00\x00\x00\x00"},
		{-api.MaxInt, "\x7f\xff\xff\x00\x00\x00\x00\x00"},
		{math.MaxInt, "\xff\xff\xff\xff\xff\xff\xff\xff"},
		{math.MinInt, "\x00\x00\x00\x00\x00\x00\x00\x00"},
		{math.MinInt + 1, "\x00\x00\x00\x00\x00\x00\x00\x01"},
	} {
		if got := Int(x.v); got != x.want {
			t.Errorf("Int(%d): %x", x.v, got)
		}
		if v, ok := GetInt(x.want); v != x.v || !ok {
			t.Errorf("GetInt(%x): %d, %v", x.want, v, ok)
		}
	}
}

func TestGetIntOfAnotherLength(t *testing.T) {
	for length := range 40 {
		for _, b := range []string{"\x00", "\x01", "\x80", "\xff"} {
			s := strings.Repeat(b, length)
			v, ok := GetInt(s)
			if ok != (length == 8) || !ok && v != 0 {
				t.Errorf("GetInt(%x): %d, %v", s, v, ok)
			}
		}
	}
}

// P2.4

func TestWhatIsPutIsGot(t *testing.T) {
	for _, front := range fronts {
		b := []byte(front)
		for _, v := range edges() {
			b = Num(b, v)
		}
		for _, s := range texts() {
			b = Text(b, s)
		}
		at := len(front)
		for _, want := range edges() {
			v, next, e := GetNum(b, at)
			if v != want || e != api.OK {
				t.Fatalf("number %d: %d, %d", want, v, e)
			}
			at = next
		}
		for _, want := range texts() {
			s, next, e := GetText(b, at)
			if s != want || e != api.OK {
				t.Fatalf("text %q: %q, %d", want, s, e)
			}
			at = next
		}
		if at != len(b) {
			t.Errorf("%d bytes of %d are got", at, len(b))
		}
	}
	for _, want := range wholes() {
		if v, ok := GetInt(Int(want)); v != want || !ok {
			t.Errorf("whole number %d: %d, %v", want, v, ok)
		}
	}
}

// TestWhatIsCutIsShort cuts what is put at each of its bytes.
func TestWhatIsCutIsShort(t *testing.T) {
	for _, v := range edges() {
		b := Num(nil, v)
		for cut := range b {
			if got, next, e := GetNum(b[:cut], 0); got != 0 || next != 0 || e != api.ErrShort {
				t.Errorf("number %d, %d bytes: %d, %d, %d", v, cut, got, next, e)
			}
		}
	}
	for _, s := range texts() {
		b := Text(nil, s)
		for cut := range b {
			if got, next, e := GetText(b[:cut], 0); got != "" || next != 0 || e != api.ErrShort {
				t.Errorf("text %q, %d bytes: %q, %d, %d", s, cut, got, next, e)
			}
		}
	}
}

func TestBytesStandInOrder(t *testing.T) {
	rising(t, "Num", edges(), func(v uint64) string { return string(Num(nil, v)) })
	rising(t, "Text", texts(), func(s string) string { return string(Text(nil, s)) })
	rising(t, "Int", wholes(), Int)
}
