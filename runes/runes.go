// Package runes: texts as code points.
package runes

import (
	"strings"
	"unicode/utf8"

	"clerestory/api"
)

const quote = '\''

// Valid tells whether all code points are right.
func Valid(s string) bool {
	for i, r := range s {
		if !right(s, i, r) {
			return false
		}
	}
	return true
}

// right tells whether the code point r, at the byte i of s, is one. Range gives utf8.RuneError for a byte that is none, but for that code point, written rightly, too: only the bytes tell the two apart.
func right(s string, i int, r rune) bool {
	return r != utf8.RuneError || strings.HasPrefix(s[i:], string(utf8.RuneError))
}

// Count is how many code points there are.
func Count(s string) int {
	count := 0
	for range s {
		count++
	}
	return count
}

// At is the code point with a number, and where it begins.
func At(s string, n int) (rune, int, bool) {
	number := 0
	for from, r := range s {
		if number == n {
			return r, from, true
		}
		number++
	}
	return 0, 0, false
}

// Fold is a text with small letters.
func Fold(s string) string {
	// Bytes, not runes, are put together: a byte that begins no code point must stay what it is.
	folded := []byte(s)
	for i, r := range s {
		if r >= 'A' && r <= 'Z' {
			folded[i] += 'a' - 'A'
		}
	}
	return string(folded)
}

// Quote is a text between quotes.
func Quote(s string) string {
	var quoted strings.Builder
	quoted.WriteByte(quote)
	done := 0
	for i, r := range s {
		if r == quote {
			quoted.WriteString(s[done : i+1])
			done = i // the next piece begins with the same quote: so it is doubled
		}
	}
	quoted.WriteString(s[done:])
	quoted.WriteByte(quote)
	return quoted.String()
}

// Unquote is the text between quotes that begins at a byte, and where it ends.
func Unquote(s string, from int) (string, int, bool) {
	if from < 0 || from >= len(s) || s[from] != quote {
		return "", 0, false
	}
	var text strings.Builder
	inner := s[from+1:]
	done := 0
	open := false // whether a quote was the last one, of which only what is behind it tells what it is
	for i, r := range inner {
		switch {
		case open && r != quote:
			return text.String(), from + 1 + i, true
		case open:
			done = i // of the two, the second one is in the next piece
			open = false
		case r == quote:
			text.WriteString(inner[done:i])
			open = true
		}
	}
	if !open {
		return "", 0, false
	}
	return text.String(), len(s), true
}

// Name tells whether a text is a name.
func Name(s string) bool {
	if len(s) == 0 || len(s) > api.MaxText {
		return false
	}
	for i, r := range s {
		digit := r >= '0' && r <= '9'
		if !letter(s, i, r) && (i == 0 || !digit) {
			return false
		}
	}
	return true
}

// letter tells whether the code point r, at the byte i of s, may begin a name.
func letter(s string, i int, r rune) bool {
	return r >= 'a' && r <= 'z' || r == '_' || r >= utf8.RuneSelf && right(s, i, r)
}
