package lex

import (
	"math/big"
	"slices"
	"strings"
	"testing"
	"unicode/utf8"

	"clerestory/api"
)

// point is a code point with the bytes that it has; of a byte that is none, wrong.
type point struct {
	r     rune
	bytes string
	wrong bool
}

// second is a second reading of the chapter: over a list of code points, each sort of token tried as far as it goes.
type second struct {
	points []point
	at     int
}

func secondOf(s string) *second {
	x := &second{}
	for len(s) > 0 {
		r, size := utf8.DecodeRuneInString(s)
		x.points = append(x.points, point{r, s[:size], r == utf8.RuneError && size == 1})
		s = s[size:]
	}
	return x
}

// ahead is the k-th code point from here on; beyond the end a wrong one.
func (x *second) ahead(k int) point {
	if x.at+k < len(x.points) {
		return x.points[x.at+k]
	}
	return point{wrong: true}
}

func (p point) is(r rune) bool { return !p.wrong && p.r == r }

func (p point) isDigit() bool { return !p.wrong && strings.ContainsRune("0123456789", p.r) }

func (p point) isLetter() bool {
	const small = "abcdefghijklmnopqrstuvwxyz"
	return !p.wrong && (p.r >= 0x80 || strings.ContainsRune(small+"_", p.r) || strings.ContainsRune(strings.ToUpper(small), p.r))
}

// skip goes behind blanks and comments.
func (x *second) skip() {
	for x.at < len(x.points) {
		p := x.ahead(0)
		switch {
		case p.is(32) || p.is(9) || p.is(10) || p.is(13):
			x.at++
		case p.is('-') && x.ahead(1).is('-'):
			for x.at < len(x.points) && !x.ahead(0).is(10) {
				x.at++
			}
		default:
			return
		}
	}
}

// all is what All must answer.
func (x *second) all() ([]Token, int, api.Errno) {
	var list []Token
	for {
		x.skip()
		if x.at == len(x.points) {
			return list, 0, api.OK
		}
		from := x.at
		token, ok := x.one()
		if !ok {
			return nil, from, api.ErrText
		}
		token.At = from
		list = append(list, token)
	}
}

func (x *second) one() (Token, bool) {
	p := x.ahead(0)
	switch {
	case p.is('\''):
		return x.text()
	case p.isLetter():
		return x.word()
	case p.isDigit() || p.is('-') && x.ahead(1).isDigit():
		return x.number()
	case !p.wrong && p.r < 0x80 && strings.Contains("(),;=*", p.bytes):
		x.at++
		return Token{Kind: 4, S: p.bytes}, true
	}
	return Token{}, false
}

func (x *second) text() (Token, bool) {
	s, right := "", true
	for x.at++; x.at < len(x.points); x.at++ {
		p := x.ahead(0)
		if p.is('\'') {
			if !x.ahead(1).is('\'') {
				x.at++
				return Token{Kind: 3, S: s}, right && len(s) <= 100
			}
			x.at++
		}
		right = right && !p.wrong
		s += p.bytes
	}
	return Token{}, false
}

func (x *second) word() (Token, bool) {
	s := ""
	for x.ahead(0).isLetter() || x.ahead(0).isDigit() {
		one := x.ahead(0).bytes
		if one >= "A" && one <= "Z" {
			one = strings.ToLower(one)
		}
		s += one
		x.at++
	}
	return Token{Kind: 1, S: s}, len(s) <= 100
}

func (x *second) number() (Token, bool) {
	s := x.ahead(0).bytes
	for x.at++; x.ahead(0).isDigit(); x.at++ {
		s += x.ahead(0).bytes
	}
	n, ok := new(big.Int).SetString(s, 10)
	if !ok || n.CmpAbs(big.NewInt(1<<40)) > 0 || x.ahead(0).isLetter() {
		return Token{}, false
	}
	return Token{Kind: 2, N: int(n.Int64())}, true
}

// held tells of an answer that the second reading does not give.
func held(t *testing.T, s string) {
	t.Helper()
	got, at, e := All(s)
	want, wantAt, wantE := secondOf(s).all()
	if !slices.Equal(got, want) || at != wantAt || e != wantE || e != api.OK && got != nil {
		t.Errorf("All(%q): %v, %d, %d, want %v, %d, %d", s, got, at, e, want, wantAt, wantE)
	}
}

// P13.1

// TestEachShortText has every text of a few pieces that turn something beside each other.
func TestEachShortText(t *testing.T) {
	pieces := []string{"a", "Z", "_", "0", "7", "-", "'", " ", "\n", "\r", "*", "(", "!", "\u20ac", "\xe2", "\x82", "\ufffd", "\xff"}
	var grow func(s string, most int)
	grow = func(s string, most int) {
		held(t, s)
		if most == 0 {
			return
		}
		for _, piece := range pieces {
			grow(s+piece, most-1)
		}
	}
	grow("", 4)
}

// TestRandomTexts has long texts, of pieces that bring them near to the edges of lengths and numbers.
func TestRandomTexts(t *testing.T) {
	pieces := []string{"a", "B9", "_", " ", " ", " ", "\t", "\n", "\n", "\r", "--", "-", "'", "''", "'x'", "(", ")", ",", ";", "=", "*", "5", "-0", "1099511627776", "1099511627777",
		"\u00e9", "\u20ac", "\U0001f600", strings.Repeat("q", 49), strings.Repeat("\u00e9", 25), strings.Repeat("''", 33), "'" + strings.Repeat("p", 99), strings.Repeat("0", 30)}
	rare := []string{"\xff", "\xe2\x82", "!", ".", "\x00", "\ufffd", "5a"}
	state := uint64(13)
	pick := func(n int) int {
		state = state*6364136223846793005 + 1442695040888963407
		return int(state>>33) % n
	}
	for range 60000 {
		s := ""
		for range pick(30) {
			piece := pieces[pick(len(pieces))]
			if pick(40) == 0 {
				piece = rare[pick(len(rare))]
			}
			if len(s)+len(piece) <= 1000 {
				s += piece
			}
		}
		held(t, s)
	}
}
