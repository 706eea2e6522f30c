package runes

import (
	"math"
	"strings"
	"testing"
	"unicode/utf8"

	"clerestory/api"
)

// awkward are bytes of which short texts make every case: letters, signs, quotes, first and later bytes of code points of two, three and four bytes, of U+FFFD, of a surrogate, and bytes that are never right.
const awkward = "aZ'\x80\xbd\xbf\xc3\xe2\xed\xef\xf0\xff"

// eachShort calls f with every text of up to most of the awkward bytes.
func eachShort(most int, f func(s string)) {
	var grow func(s string)
	grow = func(s string) {
		f(s)
		if len(s) == most {
			return
		}
		for i := 0; i < len(awkward); i++ {
			grow(s + awkward[i:i+1])
		}
	}
	grow("")
}

// same tells of an answer that is not the one that is wanted.
func same[T comparable](t *testing.T, what, s string, got, want T) {
	t.Helper()
	if got != want {
		t.Errorf("%s(%q): %v, want %v", what, s, got, want)
	}
}

// P1.1

func TestValid(t *testing.T) {
	for _, x := range []struct {
		s    string
		want bool
	}{
		{"", true},
		{"abc", true},
		{"\x00\x7f", true},
		{"\u00e9\u20ac\U0001f600", true},
		{"\ufffd", true},
		{"a\ufffdb", true},
		{"\U0010ffff", true},
		{"\xff", false},
		{"a\x80", false},
		{"\xe2\x82", false},
		{"\xef\xbf", false},
		{"\ufffd\xef\xbf", false},
		{"\xff\ufffd", false},
		{"\xc0\x80", false},
		{"\xed\xa0\x80", false},
		{"\xf4\x90\x80\x80", false},
		{strings.Repeat("a", 1000) + "\xff", false},
	} {
		same(t, "Valid", x.s, Valid(x.s), x.want)
	}
}

func TestCount(t *testing.T) {
	for _, x := range []struct {
		s    string
		want int
	}{
		{"", 0},
		{"abc", 3},
		{"\u00e9\u20ac\U0001f600", 3},
		{"\ufffd", 1},
		{"\xef\xbf", 2},
		{"a\xffb", 3},
		{"\xe2\x82'", 3},
		{"\xed\xa0\x80", 3},
		{strings.Repeat("\u20ac", 1000), 1000},
	} {
		same(t, "Count", x.s, Count(x.s), x.want)
	}
}

func TestAt(t *testing.T) {
	s := "a\u20ac\xff\ufffd\U0001f600z"
	for _, x := range []struct {
		n    int
		r    rune
		from int
		ok   bool
	}{
		{0, 'a', 0, true},
		{1, 0x20ac, 1, true},
		{2, 0xfffd, 4, true},
		{3, 0xfffd, 5, true},
		{4, 0x1f600, 8, true},
		{5, 'z', 12, true},
		{6, 0, 0, false},
		{7, 0, 0, false},
		{13, 0, 0, false},
		{-1, 0, 0, false},
		{math.MaxInt, 0, 0, false},
		{math.MinInt, 0, 0, false},
	} {
		if r, from, ok := At(s, x.n); r != x.r || from != x.from || ok != x.ok {
			t.Errorf("At(%q, %d): %#x, %d, %v", s, x.n, r, from, ok)
		}
	}
	for _, n := range []int{-1, 0, 1} {
		if r, from, ok := At("", n); r != 0 || from != 0 || ok {
			t.Errorf("At of the empty text, %d: %#x, %d, %v", n, r, from, ok)
		}
	}
}

func TestFold(t *testing.T) {
	for _, x := range []struct{ s, want string }{
		{"", ""},
		{"abcxyz", "abcxyz"},
		{"ABCXYZ", "abcxyz"},
		{"aMbZ", "ambz"},
		{"@[`{09_'", "@[`{09_'"},
		{"\u00c9\u0391", "\u00c9\u0391"}, // letters that are great ones elsewhere
		{"\u212aK", "\u212ak"},
		{"A\xffB", "a\xffb"},
		{"\xe2\x82A", "\xe2\x82a"},
		{"\xc1\xdaZ", "\xc1\xdaz"},
		{"\ufffdA\xef\xbf", "\ufffda\xef\xbf"},
	} {
		same(t, "Fold", x.s, Fold(x.s), x.want)
	}
}

// TestEachShortText holds all of P1.1 against the library's decoding, byte by byte.
func TestEachShortText(t *testing.T) {
	eachShort(4, func(s string) {
		same(t, "Valid", s, Valid(s), utf8.ValidString(s))
		same(t, "Count", s, Count(s), utf8.RuneCountInString(s))
		n := 0
		for i := 0; i < len(s); n++ {
			want, size := utf8.DecodeRuneInString(s[i:])
			if r, from, ok := At(s, n); r != want || from != i || !ok {
				t.Errorf("At(%q, %d): %#x, %d, %v", s, n, r, from, ok)
			}
			i += size
		}
		if r, from, ok := At(s, n); r != 0 || from != 0 || ok {
			t.Errorf("At(%q, %d): %#x, %d, %v", s, n, r, from, ok)
		}
		same(t, "Fold", s, Fold(s), strings.ReplaceAll(s, "Z", "z"))
	})
}

// P1.2

func TestQuote(t *testing.T) {
	for _, x := range []struct{ s, want string }{
		{"", "''"},
		{"a", "'a'"},
		{"it's", "'it''s'"},
		{"'", "''''"},
		{"''", "''''''"},
		{"'a'", "'''a'''"},
		{"a''b", "'a''''b'"},
		{"\u00e9'\u20ac", "'\u00e9''\u20ac'"},
		{"\xe2'\x82", "'\xe2''\x82'"},
		{"\xff", "'\xff'"},
		{"\n\x00\"\\", "'\n\x00\"\\'"},
	} {
		same(t, "Quote", x.s, Quote(x.s), x.want)
	}
}

func TestUnquote(t *testing.T) {
	for _, x := range []struct {
		s    string
		from int
		text string
		next int
		ok   bool
	}{
		{"'a'", 0, "a", 3, true},
		{"''", 0, "", 2, true},
		{"''''", 0, "'", 4, true},
		{"''''''", 0, "''", 6, true},
		{"'it''s'", 0, "it's", 7, true},
		{"'''a'''", 0, "'a'", 7, true},
		{"'a'b", 0, "a", 3, true},
		{"'a' '", 0, "a", 3, true},
		{"'a' 'b'", 0, "a", 3, true},
		{"'' ''", 0, "", 2, true},
		{"'a'\xff", 0, "a", 3, true},
		{"'\xff\n'", 0, "\xff\n", 4, true},
		{"'\xe2'\x82'", 0, "\xe2", 3, true},
		{"xy'a'z", 2, "a", 5, true},
		{"\u20ac'\u20ac'\u20ac", 3, "\u20ac", 8, true},
		{"'a''b'", 2, "", 4, true}, // from there on, by itself
		{"'a''b'", 3, "b", 6, true},
		{"'", 0, "", 0, false},
		{"'''", 0, "", 0, false},
		{"'''''", 0, "", 0, false},
		{"'a", 0, "", 0, false},
		{"'a''", 0, "", 0, false},
		{"'a''b", 0, "", 0, false},
		{"'a'", 1, "", 0, false},
		{"'a'", 2, "", 0, false},
		{"'a'", 3, "", 0, false},
		{"'a'", 4, "", 0, false},
		{"'a'", -1, "", 0, false},
		{"'a'", math.MaxInt, "", 0, false},
		{"'a'", math.MinInt, "", 0, false},
		{"a'b'", 0, "", 0, false},
		{" 'b'", 0, "", 0, false},
		{"\"b\"", 0, "", 0, false},
		{"\u20ac'a'", 1, "", 0, false},
		{"", 0, "", 0, false},
	} {
		if text, next, ok := Unquote(x.s, x.from); text != x.text || next != x.next || ok != x.ok {
			t.Errorf("Unquote(%q, %d): %q, %d, %v", x.s, x.from, text, next, ok)
		}
	}
}

// unquoted looks for what Unquote must answer by trying every end.
func unquoted(s string, from int) (string, int, bool) {
	for next := from + 2; next <= len(s); next++ {
		whole := s[from:next]
		text := strings.ReplaceAll(whole[1:len(whole)-1], "''", "'")
		if Quote(text) == whole && !strings.HasPrefix(s[next:], "'") {
			return text, next, true
		}
	}
	return "", 0, false
}

func TestUnquoteEachShortText(t *testing.T) {
	eachShort(4, func(s string) {
		for from := range len(s) {
			text, next, ok := Unquote(s, from)
			wantText, wantNext, wantOK := unquoted(s, from)
			if text != wantText || next != wantNext || ok != wantOK {
				t.Errorf("Unquote(%q, %d): %q, %d, %v", s, from, text, next, ok)
			}
		}
	})
}

// P1.3

func TestName(t *testing.T) {
	for _, x := range []struct {
		s    string
		want bool
	}{
		{"a", true},
		{"z", true},
		{"_", true},
		{"az_09", true},
		{"_9", true},
		{"__", true},
		{"\u0080", true},
		{"\u00e9t\u00e9", true},
		{"\U0001f600\U0010ffff", true},
		{"\ufffd", true},
		{"a\ufffd9", true},
		{strings.Repeat("a", api.MaxText), true},
		{strings.Repeat("\u20ac", 33) + "9", true},
		{strings.Repeat("\u00e9", 50), true},
		{"", false},
		{"0", false},
		{"9a", false},
		{"A", false},
		{"aB", false},
		{"aZ", false},
		{"a b", false},
		{" a", false},
		{"a ", false},
		{"a-b", false},
		{"it's", false},
		{"'a'", false},
		{"`", false},
		{"a{", false},
		{"a/", false},
		{"a:", false},
		{"a@", false},
		{"a[", false},
		{"a^", false},
		{"a\x00", false},
		{"\x7f", false},
		{"\xff", false},
		{"a\x80", false},
		{"a\xe2\x82", false},
		{"\xed\xa0\x80", false},
		{strings.Repeat("a", api.MaxText+1), false},
		{strings.Repeat("\u20ac", 33) + "99", false},
		{strings.Repeat("\u00e9", 51), false},
	} {
		same(t, "Name", x.s, Name(x.s), x.want)
	}
}

// TestNameEachByte holds each byte of ASCII, as a first and as a later one, against the chapter's list.
func TestNameEachByte(t *testing.T) {
	const letters = "abcdefghijklmnopqrstuvwxyz_"
	for b := range utf8.RuneSelf {
		s := string(rune(b))
		same(t, "Name", s, Name(s), strings.Contains(letters, s))
		same(t, "Name", "a"+s, Name("a"+s), strings.Contains(letters+"0123456789", s))
	}
}

// P1.4

func TestWhatIsQuotedIsUnquoted(t *testing.T) {
	around := []struct{ before, behind string }{{"", ""}, {"x", "y"}, {"'", " '"}, {"\xe2", "\x82"}}
	eachShort(4, func(s string) {
		for _, x := range around {
			quoted := Quote(s)
			whole := x.before + quoted + x.behind
			text, next, ok := Unquote(whole, len(x.before))
			if text != s || next != len(x.before)+len(quoted) || !ok {
				t.Errorf("Unquote(%q, %d): %q, %d, %v", whole, len(x.before), text, next, ok)
			}
		}
	})
}
