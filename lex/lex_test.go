package lex

import (
	"slices"
	"strconv"
	"strings"
	"testing"

	"clerestory/api"
)

func aWord(s string, at int) Token { return Token{Kind: 1, S: s, At: at} }

func aNumber(n, at int) Token { return Token{Kind: 2, N: n, At: at} }

func aText(s string, at int) Token { return Token{Kind: 3, S: s, At: at} }

func aSign(s string, at int) Token { return Token{Kind: 4, S: s, At: at} }

// gives tells of an answer for s that is not these tokens.
func gives(t *testing.T, s string, want ...Token) {
	t.Helper()
	got, at, e := All(s)
	if !slices.Equal(got, want) || at != 0 || e != api.OK {
		t.Errorf("All(%q): %v, %d, %d, want %v", s, got, at, e, want)
	}
}

// fails tells of an answer for s that is not ErrText at a place.
func fails(t *testing.T, s string, want int) {
	t.Helper()
	got, at, e := All(s)
	if got != nil || at != want || e != api.ErrText {
		t.Errorf("All(%q): %v, %d, %d, want ErrText at %d", s, got, at, e, want)
	}
}

// P13.1

func TestKinds(t *testing.T) {
	if Word != 1 || Number != 2 || Text != 3 || Sign != 4 {
		t.Error(Word, Number, Text, Sign)
	}
}

func TestNothing(t *testing.T) {
	for _, s := range []string{"", " ", "\t", "\n", "\r", " \t\r\n ", "--", "---", "-- hop", "--\n", "-- a\n--b\r\n --\n"} {
		if got, at, e := All(s); got != nil || at != 0 || e != api.OK {
			t.Errorf("All(%q): %v, %d, %d", s, got, at, e)
		}
	}
}

func TestWords(t *testing.T) {
	gives(t, "a", aWord("a", 0))
	gives(t, "_", aWord("_", 0))
	gives(t, "abcxyz_0189", aWord("abcxyz_0189", 0))
	gives(t, "AMZ09amz", aWord("amz09amz", 0))
	gives(t, "SELECT Select select", aWord("select", 0), aWord("select", 7), aWord("select", 14))
	gives(t, "_1 a_1_", aWord("_1", 0), aWord("a_1_", 3))
	gives(t, "\u00c9A\u0391\u212aK", aWord("\u00c9a\u0391\u212ak", 0)) // great ones elsewhere stay
	gives(t, "a\u20ac9\U0001f600 b", aWord("a\u20ac9\U0001f600", 0), aWord("b", 5))
	gives(t, "\u0080", aWord("\u0080", 0))
	gives(t, "\u00a0\u2028\ufeff", aWord("\u00a0\u2028\ufeff", 0)) // no blanks here
	gives(t, "\u0663x", aWord("\u0663x", 0))                       // a digit elsewhere is a letter here
	gives(t, "\ufffd", aWord("\ufffd", 0))
	gives(t, "a\ufffdb", aWord("a\ufffdb", 0))
	gives(t, "\U0010ffff", aWord("\U0010ffff", 0))
	gives(t, "a(b", aWord("a", 0), aSign("(", 1), aWord("b", 2))
	gives(t, "a'b'", aWord("a", 0), aText("b", 1))
	gives(t, "a-5", aWord("a", 0), aNumber(-5, 1))
	gives(t, "a5-5--", aWord("a5", 0), aNumber(-5, 2))
}

func TestWordsThatAreNone(t *testing.T) {
	fails(t, "a\xff", 1)
	fails(t, "\xff", 0)
	fails(t, "\x80a", 0)
	fails(t, "ab\xe2\x82", 2)
	fails(t, "a \xe2\x82b", 2)
	fails(t, "\u20ac\xed\xa0\x80", 1)
	fails(t, "\ufffd\xef\xbf", 1)
	fails(t, "a.b", 1)
	fails(t, "\"a\"", 0)
	fails(t, "a5-b5", 2)
}

func TestLengthOfWords(t *testing.T) {
	long := strings.Repeat("x", 100)
	gives(t, long, aWord(long, 0))
	gives(t, " "+strings.ToUpper(long)+" a", aWord(long, 1), aWord("a", 102))
	fails(t, long+"x", 0)
	fails(t, long+"9", 0)
	fails(t, "a, "+long+"_ !", 3)
	wide := strings.Repeat("\u00e9", 50) // a hundred bytes
	gives(t, wide+" a", aWord(wide, 0), aWord("a", 51))
	fails(t, " "+wide+"a", 1)
	fails(t, strings.Repeat("\u20ac", 34), 0)
	fails(t, strings.Repeat("x", 1000), 0)
}

func TestNumbers(t *testing.T) {
	gives(t, "a=-5", aWord("a", 0), aSign("=", 1), aNumber(-5, 2))
	gives(t, "0", aNumber(0, 0))
	gives(t, "-0", aNumber(0, 0))
	gives(t, "5", aNumber(5, 0))
	gives(t, "-5", aNumber(-5, 0))
	gives(t, "1234567890", aNumber(1234567890, 0))
	gives(t, "007 -010", aNumber(7, 0), aNumber(-10, 4))
	gives(t, "5-5", aNumber(5, 0), aNumber(-5, 1))
	gives(t, "1-2-3", aNumber(1, 0), aNumber(-2, 1), aNumber(-3, 3))
	gives(t, "5'x'", aNumber(5, 0), aText("x", 1))
	gives(t, "5(6", aNumber(5, 0), aSign("(", 1), aNumber(6, 2))
	gives(t, "1099511627776", aNumber(1<<40, 0))
	gives(t, "-1099511627776", aNumber(-1<<40, 0))
	gives(t, strings.Repeat("0", 987)+"1099511627776", aNumber(1<<40, 0))
	gives(t, "-"+strings.Repeat("0", 999), aNumber(0, 0))
}

func TestNumbersThatAreNone(t *testing.T) {
	fails(t, "1099511627777", 0)
	fails(t, "-1099511627777", 0)
	fails(t, " 1099511627780", 1)
	fails(t, "2199023255552", 0)
	fails(t, "9223372036854775807", 0)
	fails(t, "9223372036854775808", 0)
	fails(t, "-9223372036854775808", 0)
	fails(t, "18446744073709551616", 0) // 2^64: nought, if it went round
	fails(t, "18446744073709551621", 0)
	fails(t, "-18446744073709551621", 0)
	fails(t, strings.Repeat("9", 1000), 0)
	fails(t, "-", 0)
	fails(t, "- 5", 0)
	fails(t, "-a", 0)
	fails(t, "-_", 0)
	fails(t, "-'5'", 0)
	fails(t, "-(5)", 0)
	fails(t, "-\u0663", 0)
	fails(t, "5-", 1)
	fails(t, "a - 5", 2)
	fails(t, "+5", 0)
	fails(t, "5+", 1)
	fails(t, "1.5", 1)
	fails(t, "5\xff", 1) // a byte that is no code point is no letter
	fails(t, "5\xc3(", 1)
}

func TestLettersBehindDigits(t *testing.T) {
	for _, letter := range []string{"a", "m", "z", "A", "M", "Z", "_", "x", "e5", "b1", "\u0080", "\u00e9", "\u20ac", "\ufffd", "\U0010ffff"} {
		fails(t, "5"+letter, 0)
		fails(t, "\u20ac, -12"+letter+" !", 3)
		gives(t, "5 "+letter, aNumber(5, 0), aWord(strings.ToLower(letter), 2))
	}
	fails(t, "0x10", 0)
	fails(t, "1e5", 0)
	fails(t, "1_000", 0)
}

func TestTexts(t *testing.T) {
	gives(t, "''", aText("", 0))
	gives(t, "'a'", aText("a", 0))
	gives(t, "'It''s'", aText("It's", 0)) // not folded
	gives(t, "''''", aText("'", 0))
	gives(t, "''''''", aText("''", 0))
	gives(t, "'a'''b", aText("a'", 0), aWord("b", 5))
	gives(t, "'a''''b'", aText("a''b", 0))
	gives(t, "'a' 'b'", aText("a", 0), aText("b", 4))
	gives(t, "'a'b'c'", aText("a", 0), aWord("b", 3), aText("c", 4))
	gives(t, "'a'5'c'", aText("a", 0), aNumber(5, 3), aText("c", 4))
	gives(t, "'--'--'", aText("--", 0))
	gives(t, "'a\nb\r\n\tc' d", aText("a\nb\r\n\tc", 0), aWord("d", 10))
	gives(t, "'(),;=*5 \x00\"' 5", aText("(),;=*5 \x00\"", 0), aNumber(5, 13))
	gives(t, "'\u20ac''\U0001f600' 1", aText("\u20ac'\U0001f600", 0), aNumber(1, 7))
	gives(t, "'\ufffd'", aText("\ufffd", 0))
}

func TestTextsThatAreNone(t *testing.T) {
	fails(t, "'", 0)
	fails(t, "'a", 0)
	fails(t, "'''", 0)
	fails(t, "b 'a''", 2)
	fails(t, "'a' 'b", 4)
	fails(t, "'\u20ac' 'b", 4)
	fails(t, "a '\n", 2)
	fails(t, "'\xff'", 0)
	fails(t, "a, 'b\xe2\x82'", 3)
	fails(t, "'\xed\xa0\x80'", 0)
	fails(t, "'\ufffd\xef\xbf'", 0)
	fails(t, "'\xe2''\x82\xac'", 0)
}

func TestLengthOfTexts(t *testing.T) {
	long := strings.Repeat("y", 100)
	gives(t, "'"+long+"' a", aText(long, 0), aWord("a", 103))
	fails(t, "a '"+long+"y'", 2)
	fails(t, "'"+long+"''' !", 0)
	quotes := strings.Repeat("''", 100) // a hundred bytes of the text, twice as many of what is read
	gives(t, "'"+quotes+"' a", aText(strings.Repeat("'", 100), 0), aWord("a", 203))
	fails(t, "'"+quotes+"''' a", 0)
	wide := strings.Repeat("\u20ac", 33)
	gives(t, "'"+wide+"z'", aText(wide+"z", 0))
	fails(t, "'"+wide+"\u00e9'", 0)
	fails(t, "'"+strings.Repeat("y", 998)+"'", 0)
}

func TestSigns(t *testing.T) {
	gives(t, "(),;=*", aSign("(", 0), aSign(")", 1), aSign(",", 2), aSign(";", 3), aSign("=", 4), aSign("*", 5))
	gives(t, "((==**", aSign("(", 0), aSign("(", 1), aSign("=", 2), aSign("=", 3), aSign("*", 4), aSign("*", 5))
	gives(t, "*--*\n*", aSign("*", 0), aSign("*", 5))
	gives(t, "a,B;5=", aWord("a", 0), aSign(",", 1), aWord("b", 2), aSign(";", 3), aNumber(5, 4), aSign("=", 5))
}

// TestEachByte has each byte by itself, and between two words: just those that the chapter names begin something.
func TestEachByte(t *testing.T) {
	for b := range 256 {
		s := string([]byte{byte(b)})
		between := "\u20ac " + s + " b"
		front, back := aWord("\u20ac", 0), aWord("b", 4)
		switch {
		case strings.Contains(" \t\r\n", s):
			gives(t, s)
			gives(t, between, front, back)
		case strings.Contains("(),;=*", s):
			gives(t, s, aSign(s, 0))
			gives(t, between, front, aSign(s, 2), back)
		case b >= '0' && b <= '9':
			gives(t, s, aNumber(b-'0', 0))
			gives(t, between, front, aNumber(b-'0', 2), back)
		case b >= 'a' && b <= 'z' || b >= 'A' && b <= 'Z' || b == '_':
			gives(t, s, aWord(strings.ToLower(s), 0))
			gives(t, between, front, aWord(strings.ToLower(s), 2), back)
		default:
			fails(t, s, 0)
			fails(t, between, 2)
		}
	}
}

func TestBlanksAndComments(t *testing.T) {
	gives(t, " \t\r\na", aWord("a", 4))
	gives(t, "a \t\r\nb\r\n", aWord("a", 0), aWord("b", 5))
	gives(t, "--\na", aWord("a", 3))
	gives(t, "a--b c\nd", aWord("a", 0), aWord("d", 7))
	gives(t, "a --b", aWord("a", 0))
	gives(t, "5--5\n6", aNumber(5, 0), aNumber(6, 5))
	gives(t, "---5\n-6", aNumber(-6, 5))
	gives(t, "-5---6\n7", aNumber(-5, 0), aNumber(7, 7))
	gives(t, "'a'--'\nb", aText("a", 0), aWord("b", 7))
	gives(t, "-- it's \xff \xe2\x82 . ! 99999999999999\na", aWord("a", 32)) // whatever stands there, code point by code point
	gives(t, "--\u20ac\U0001f600\nb", aWord("b", 5))
	gives(t, "--a\r\nb", aWord("b", 5))
	gives(t, "--a\rb\tc\nd", aWord("d", 8)) // the end of a line is the byte 10
	gives(t, "--a--b\nc--d\n--e", aWord("c", 7))
	gives(t, "-- "+strings.Repeat("x", 997))
	fails(t, "-- c\n\u20ac +", 7)
	fails(t, "- -", 0)
	fails(t, "-\n-", 0)
	fails(t, "a -\t-b", 2)
	fails(t, "\va", 0)
	fails(t, "a\f", 1)
	fails(t, "a\x00", 1)
}

func TestPlaces(t *testing.T) {
	gives(t, "\u20ac \u20ac=\U0001f600", aWord("\u20ac", 0), aWord("\u20ac", 2), aSign("=", 3), aWord("\U0001f600", 4))
	fails(t, "a !", 2)
	fails(t, "\u20ac\u20ac \"x\"", 3)
	fails(t, "'\u20ac\u20ac' \u20ac <", 7)
	fails(t, "! '", 0) // the first one
	fails(t, "a 5b 'c", 2)
	fails(t, "--\xff\xff\xff\n !", 7)
}

func TestMostBytes(t *testing.T) {
	none := func(s string) {
		t.Helper()
		if got, at, e := All(s); got != nil || at != 0 || e != api.ErrBig {
			t.Errorf("All of %d bytes: %v, %d, %d", len(s), got, at, e)
		}
	}
	gives(t, strings.Repeat(" ", 1000))
	gives(t, strings.Repeat(" ", 999)+"a", aWord("a", 999))
	fails(t, strings.Repeat(" ", 999)+"!", 999)
	none(strings.Repeat(" ", 1001))
	none(strings.Repeat(" ", 1000) + "a")
	none(strings.Repeat("!", 1001)) // ErrBig ahead of ErrText
	none("-- " + strings.Repeat("\u20ac", 333))
	gives(t, "-- "+strings.Repeat("\u20ac", 332)) // 999 bytes
	none(strings.Repeat("a ", 1<<20))
	got, at, e := All(strings.Repeat("*", 1000))
	if len(got) != 1000 || at != 0 || e != api.OK {
		t.Error(len(got), at, e)
	}
	for i, token := range got {
		if token != aSign("*", i) {
			t.Error(i, token)
		}
	}
}

// TestWholeStatement has each kind in one statement.
func TestWholeStatement(t *testing.T) {
	gives(t, "Insert INTO t (p, c) -- key\nVALUES ('it''s', -7);",
		aWord("insert", 0), aWord("into", 7), aWord("t", 12), aSign("(", 14), aWord("p", 15), aSign(",", 16), aWord("c", 18), aSign(")", 19),
		aWord("values", 28), aSign("(", 35), aText("it's", 36), aSign(",", 43), aNumber(-7, 45), aSign(")", 47), aSign(";", 48))
}

// TestOwnMemory has two answers for one text: neither tells of what is done to the other, nor of what is put behind it.
func TestOwnMemory(t *testing.T) {
	s := "a 'b' 5 ("
	want := []Token{aWord("a", 0), aText("b", 2), aNumber(5, 6), aSign("(", 8)}
	one, _, _ := All(s)
	two, _, _ := All(s)
	clear(one)
	one = append(one, aWord("z", 99), aWord("z", 99), aWord("z", 99), aWord("z", 99))
	clear(one[:cap(one)])
	if !slices.Equal(two, want) {
		t.Error(two)
	}
	gives(t, s, want...)
}

// P13.2

// TestBlanksMore lays blanks between each two tokens, ahead of the first one and behind the last one.
func TestBlanksMore(t *testing.T) {
	for _, s := range []string{"a", "a=-5", "5-5", "1-2-3", "a'b'c", "5'x'(", "(),;=*", "'it''s'a'b''c'", "a-5--6\n7'--'--", "\u20ac'\u20ac'\u20ac", "drop   V ;"} {
		plain, _, e := All(s)
		if e != api.OK {
			t.Error(s, e)
		}
		for _, more := range []string{" ", "\t", "\n", "\r", "\r\n", " \t \n", strings.Repeat(" ", 50)} {
			for k := range len(plain) + 1 {
				blanksAt(t, s, plain, k, more)
			}
		}
	}
}

// blanksAt lays blanks ahead of the k-th token of s, or behind all of them.
func blanksAt(t *testing.T, s string, plain []Token, k int, more string) {
	t.Helper()
	points := []rune(s)
	cut := len(points)
	if k < len(plain) {
		cut = plain[k].At
	}
	want := slices.Clone(plain)
	for i := k; i < len(want); i++ {
		want[i].At += len(more)
	}
	gives(t, string(points[:cut])+more+string(points[cut:]), want...)
}

// TestLaidTexts lays tokens of all kinds one behind the other, with all sorts of things between: it is known what must come.
func TestLaidTexts(t *testing.T) {
	numbers := uint64(1)
	pick := func(n int) int {
		numbers = numbers*6364136223846793005 + 1442695040888963407
		return int(numbers>>33) % n
	}
	kinds := []struct {
		s    string
		want Token
	}{
		{"a", aWord("a", 0)}, {"Z_9", aWord("z_9", 0)}, {"\u20acX", aWord("\u20acx", 0)}, {"\ufffd", aWord("\ufffd", 0)},
		{"0", aNumber(0, 0)}, {"-12", aNumber(-12, 0)}, {strconv.Itoa(1 << 40), aNumber(1<<40, 0)},
		{"''", aText("", 0)}, {"'A''\u20ac--'", aText("A'\u20ac--", 0)}, {"' \n'", aText(" \n", 0)},
		{"(", aSign("(", 0)}, {";", aSign(";", 0)}, {"*", aSign("*", 0)},
	}
	between := []string{" ", "\t", "\r\n", "\n\n ", "--\n", " -- 'x \xff\u20ac\n", "-----5\n\t"}
	for range 3000 {
		var s string
		var want []Token
		for range pick(12) {
			s += between[pick(len(between))]
			k := kinds[pick(len(kinds))]
			k.want.At = len([]rune(s))
			want = append(want, k.want)
			s += k.s
		}
		gives(t, s, want...)
		gives(t, s+"--", want...)
		fails(t, s+" 5a", len([]rune(s))+1)
	}
}
