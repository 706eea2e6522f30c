package parse

import (
	"strconv"
	"strings"

	"clerestory/lex"
	"clerestory/runes"
)

// The grammar's words: none of them is a name.
const grammar = " and apply as batch begin create delete drop from index insert int into is key limit materialized not null on primary select set table text timestamp ttl update using values view where "

// leaf is a token of the tree.
type leaf interface {
	written() string // as it stands in a text
}

type word string

type number int

type text string

type sign string

func (w word) written() string { return string(w) }

func (n number) written() string { return strconv.Itoa(int(n)) }

func (t text) written() string { return runes.Quote(string(t)) }

func (s sign) written() string { return string(s) }

// free tells whether a word may be a name.
func (w word) free() bool {
	return !strings.Contains(grammar, " "+string(w)+" ")
}

// leaves are tokens, one by one.
func leaves(tokens []lex.Token) []leaf {
	var list []leaf
	for _, t := range tokens {
		list = append(list, leafOf(t))
	}
	return list
}

func leafOf(t lex.Token) leaf {
	switch t.Kind {
	case lex.Number:
		return number(t.N)
	case lex.Text:
		return text(t.S)
	case lex.Sign:
		return sign(t.S)
	}
	return word(t.S)
}

// fixed are the leaves of a piece of the grammar, of words and signs alone.
func fixed(piece string) []leaf {
	tokens, _, _ := lex.All(piece)
	return leaves(tokens)
}
