package print

import (
	"reflect"
	"slices"
	"strconv"
	"strings"
	"testing"

	"clerestory/api"
	"clerestory/lex"
	"clerestory/parse"
)

// The grammar's words, as parse's chapter has them.
var great = strings.Fields("CREATE TABLE PRIMARY KEY MATERIALIZED VIEW AS SELECT FROM WHERE IS NOT NULL INDEX ON DROP INSERT INTO VALUES USING UPDATE SET AND DELETE TIMESTAMP LIMIT BEGIN BATCH APPLY TEXT INT TTL")

// alike tells whether two statements are, where an empty list is none.
func alike(a, b api.Stmt) bool {
	return reflect.DeepEqual(bare(a), bare(b))
}

// bare is a statement with new lists, the empty ones nil.
func bare(x api.Stmt) api.Stmt {
	x.Cols = slices.Clone(x.Cols)
	x.Sets = slices.Clone(x.Sets)
	x.Where = slices.Clone(x.Where)
	x.Table.Cols = slices.Clone(x.Table.Cols)
	parts := make([]api.Stmt, 0, len(x.Parts))
	for _, part := range x.Parts {
		parts = append(parts, bare(part))
	}
	x.Parts = parts
	return emptied(x)
}

// emptied has nil for each list that is empty.
func emptied(x api.Stmt) api.Stmt {
	if len(x.Cols) == 0 {
		x.Cols = nil
	}
	if len(x.Sets) == 0 {
		x.Sets = nil
	}
	if len(x.Where) == 0 {
		x.Where = nil
	}
	if len(x.Table.Cols) == 0 {
		x.Table.Cols = nil
	}
	if len(x.Parts) == 0 {
		x.Parts = nil
	}
	return x
}

// spelt is a second reading of the chapter: what must be printed of a parsed text, by its tokens alone.
func spelt(s string) string {
	tokens, _, _ := lex.All(s)
	last := len(tokens) - 1
	if tokens[last].Kind == lex.Sign && tokens[last].S == ";" {
		tokens = tokens[:last]
	}
	if tokens[1].S == "table" {
		tokens = keyFirst(tokens)
	}
	out := ""
	for i, t := range tokens {
		if i > 0 && !isSign(tokens[i-1], "(") && !isSign(t, "),;") {
			out += " "
		}
		out += speltOne(t)
	}
	return out
}

func isSign(t lex.Token, signs string) bool {
	return t.Kind == lex.Sign && strings.Contains(signs, t.S)
}

func speltOne(t lex.Token) string {
	upper := strings.ToUpper(t.S)
	switch {
	case t.Kind == lex.Number:
		return strconv.Itoa(t.N)
	case t.Kind == lex.Text:
		return "'" + strings.ReplaceAll(t.S, "'", "''") + "'"
	case t.Kind == lex.Word && slices.Contains(great, upper):
		return upper
	}
	return t.S
}

// keyFirst are a table's tokens with the columns of its key ahead of the others.
func keyFirst(tokens []lex.Token) []lex.Token {
	from, to := 4, len(tokens)-8 // CREATE TABLE t ( .. PRIMARY KEY ( p , k ) )
	p, k := tokens[len(tokens)-5], tokens[len(tokens)-3]
	var first, second, others []lex.Token
	for i := from; i < to; i += 3 {
		switch tokens[i].S {
		case p.S:
			first = tokens[i : i+3]
		case k.S:
			second = tokens[i : i+3]
		default:
			others = append(others, tokens[i:i+3]...)
		}
	}
	return slices.Concat(tokens[:from], first, second, others, tokens[to:])
}

// maker makes random statements and texts, by numbers of its own.
type maker struct{ state uint64 }

func (m *maker) pick(n int) int {
	m.state = m.state*6364136223846793005 + 1442695040888963407
	return int(m.state>>33) % n
}

func (m *maker) of(list ...string) string { return list[m.pick(len(list))] }

// seldom is true one time of n.
func (m *maker) seldom(n int) bool { return m.pick(n) == 0 }

func (m *maker) name() string {
	if m.seldom(60) {
		return m.of("V", "table", "5", "", "a b", "it's", "-", strings.Repeat("n", 101), "\xff")
	}
	return m.of("t", "v", "p", "k", "tables", "_9", "\u00c9", "\u20ac"+strings.Repeat("n", m.pick(98)))
}

// names are so many, unlike each other, but for one now and then.
func (m *maker) names(n int) []string {
	var list []string
	for i := range n {
		name := string(rune('a'+i)) + m.of("", "", "x", "\u00e9", "_1")
		if m.seldom(60) {
			name = m.name()
		}
		list = append(list, name)
	}
	return list
}

// count is mostly small, now and then up to one more than most.
func (m *maker) count(least, most int) int {
	if m.seldom(4) {
		return least + m.pick(most-least+2)
	}
	return least + m.pick(3)
}

func (m *maker) term() api.Term {
	if m.seldom(80) {
		return api.Term{Type: m.pick(4), S: m.of("", "x", strings.Repeat("x", 101)), N: m.pick(2) * (1<<40 + 1)}
	}
	if m.seldom(2) {
		return api.Term{Type: api.Int, N: []int{0, 1, -1, 7, -300, most, least}[m.pick(7)]}
	}
	return api.Term{Type: api.Text, S: m.of("", "x", "it's", "'", " ) , ; ", "(", "-- so", "drop", "\u20ac", "a\nb", strings.Repeat("'", m.pick(101)))}
}

func (m *maker) pairs(names []string) []api.Pair {
	var list []api.Pair
	for _, name := range names {
		list = append(list, api.Pair{Name: name, Term: m.term()})
	}
	return list
}

// number is nought, or mostly one that may be.
func (m *maker) number() int {
	if m.seldom(40) {
		return []int{-1, 1<<40 + 1}[m.pick(2)]
	}
	return []int{0, 0, 1, 9, 1 << 40}[m.pick(5)]
}

func (m *maker) change() api.Stmt {
	x := api.Stmt{Kind: api.Insert + m.pick(3), Of: m.name(), Stamp: m.number()}
	switch x.Kind {
	case api.Insert:
		x.Sets, x.TTL = m.pairs(m.names(m.count(1, 10))), m.number()
	case api.Update:
		x.Sets, x.TTL = m.pairs(m.names(m.count(1, 8))), m.number()
		x.Where = m.pairs(m.names(2))
	case api.Delete:
		x.Cols = m.names(m.count(0, 8))
		x.Where = m.pairs(m.names(1 + m.pick(2)))
	}
	return x
}

func (m *maker) table() api.Stmt {
	var cols []api.Column
	for _, name := range m.names(m.count(2, 10)) {
		cols = append(cols, api.Column{Name: name, Type: 1 + m.pick(2)})
	}
	x := api.Stmt{Kind: api.CreateTable, Name: m.name()}
	x.Table = api.Table{Name: x.Name, Part: cols[0], Clus: cols[1], Cols: cols[2:]}
	return x
}

func (m *maker) stmt() api.Stmt {
	switch m.pick(9) {
	case 0:
		return m.table()
	case 1:
		x := api.Stmt{Kind: api.CreateView, Name: m.name(), Of: m.name(), On: m.name(), Cols: m.names(m.count(0, 8))}
		x.Where = []api.Pair{{Name: m.name()}, {Name: m.name()}}
		return x
	case 2:
		return api.Stmt{Kind: api.CreateIndex, Name: m.name(), Of: m.name(), On: m.name()}
	case 3:
		return api.Stmt{Kind: api.Drop, Name: m.name()}
	case 4:
		return api.Stmt{Kind: api.Select, Of: m.name(), Cols: m.names(m.count(0, 8)), Where: m.pairs(m.names(1 + m.pick(2))), Limit: m.number()}
	case 5:
		x := api.Stmt{Kind: api.Batched}
		for range m.count(1, 8) {
			x.Parts = append(x.Parts, m.change())
		}
		return x
	}
	return m.change()
}

// written is a text with other blanks and comments, letters and noughts, and with a table's columns in another order, that is parsed as the same but for these.
func (m *maker) written(s string) string {
	tokens, _, _ := lex.All(s)
	if tokens[1].S == "table" {
		columns := tokens[4 : len(tokens)-8]
		for i := 0; i < len(columns); i += 3 {
			j := 3 * m.pick(len(columns)/3)
			was := [2]lex.Token{columns[i], columns[i+1]}
			columns[i], columns[i+1] = columns[j], columns[j+1]
			columns[j], columns[j+1] = was[0], was[1]
		}
	}
	out := m.of("", "", " ")
	for i, t := range tokens {
		if i > 0 {
			out += m.gap(tokens[i-1], t)
		}
		out += m.otherwise(t)
	}
	return out + m.of("", "", ";", " ; ", "\n;", " -- so", ";--")
}

func (m *maker) gap(a, b lex.Token) string {
	if a.Kind != lex.Sign && b.Kind != lex.Sign || m.seldom(2) {
		return m.of(" ", " ", " ", "\n", "\t", "  ", "--\n")
	}
	return ""
}

func (m *maker) otherwise(t lex.Token) string {
	s := speltOne(t)
	switch {
	case t.Kind == lex.Number && t.N >= 0 && m.seldom(3):
		return m.of("0", "00") + s
	case t.Kind == lex.Number && t.N < 0 && m.seldom(3):
		return "-0" + s[1:]
	case t.Kind == lex.Word && m.seldom(2):
		return strings.Map(func(r rune) rune {
			if r >= 'a' && r <= 'z' {
				return r - 'a' + 'A'
			}
			return r
		}, t.S)
	case t.Kind == lex.Word:
		return t.S
	}
	return s
}

// P15.1, P15.2: of any statement that may be, what is printed is spelt as must be, and parsed as it; of any other nothing. R3: what is handed in is as it was.
func TestRandomStatements(t *testing.T) {
	m := &maker{state: 15}
	counts := map[int]int{}
	for range 30000 {
		x := m.stmt()
		was := bare(x)
		got := Text(x)
		if !alike(x, was) {
			t.Errorf("Text turned %+v to %+v", was, x)
		}
		if !parse.Check(x) {
			counts[0]++
			if got != "" {
				t.Errorf("Text(%+v): %q", x, got)
			}
			continue
		}
		counts[x.Kind]++
		if got == "" || got != spelt(got) || strings.HasSuffix(got, ";") {
			t.Errorf("Text(%+v): %q", x, got)
		}
		if back, at, e := parse.Parse(got); !alike(back, x) || at != 0 || e != api.OK {
			t.Errorf("Parse(%q): %+v, %d, %d, want %+v", got, back, at, e, x)
		}
	}
	for kind := range 10 {
		if counts[kind] < 1000 {
			t.Error("too few of one kind:", counts)
		}
	}
}

// P15.2: of any text that is parsed, what is printed is its tokens, and is parsed as that.
func TestRandomTexts(t *testing.T) {
	m := &maker{state: 16}
	done := 0
	for range 30000 {
		x := m.stmt()
		if !parse.Check(x) {
			continue
		}
		s := m.written(Text(x))
		y, _, e := parse.Parse(s)
		if e != api.OK {
			if len(s) <= api.MaxStmt {
				t.Errorf("Parse(%q): %d", s, e)
			}
			continue
		}
		done++
		got := Text(y)
		if got != spelt(s) {
			t.Errorf("of %q: %q, want %q", s, got, spelt(s))
		}
		if back, at, e := parse.Parse(got); !alike(back, y) || at != 0 || e != api.OK {
			t.Errorf("Parse(%q): %+v, %d, %d, want %+v", got, back, at, e, y)
		}
	}
	if done < 10000 {
		t.Error("too few:", done)
	}
}
