package parse

import (
	"reflect"
	"slices"
	"strconv"
	"strings"
	"testing"
	"unicode/utf8"

	"clerestory/api"
	"clerestory/lex"
)

// A second reading of the chapter: its grammar as expressions, which a token leaves smaller ones of; what else is wrong by the tokens' places; a statement's text by hand.

// The grammar's words, as the chapter has them.
var great = strings.Fields("CREATE TABLE PRIMARY KEY MATERIALIZED VIEW AS SELECT FROM WHERE IS NOT NULL INDEX ON DROP INSERT INTO VALUES USING UPDATE SET AND DELETE TIMESTAMP LIMIT BEGIN BATCH APPLY TEXT INT TTL")

// exp is what may come; nil if nothing may, not even the end.
type exp interface {
	ends() bool             // whether the end may come
	behind(t lex.Token) exp // what may come behind a token
}

type (
	empty  struct{}
	single struct{ s string }
	both   struct{ a, b exp }
	either struct{ a, b exp }
	often  struct{ a exp }
)

func (x empty) ends() bool  { return true }
func (x single) ends() bool { return false }
func (x both) ends() bool   { return x.a.ends() && x.b.ends() }
func (x either) ends() bool { return x.a.ends() || x.b.ends() }
func (x often) ends() bool  { return true }

func (x empty) behind(lex.Token) exp { return nil }

func (x single) behind(t lex.Token) exp {
	reserved := t.Kind == lex.Word && slices.Contains(great, strings.ToUpper(t.S))
	fits := false
	switch x.s {
	case "name":
		fits = t.Kind == lex.Word && !reserved
	case "value":
		fits = t.Kind == lex.Text || t.Kind == lex.Number
	case "number":
		fits = t.Kind == lex.Number
	default:
		fits = reserved && strings.ToUpper(t.S) == x.s || t.Kind == lex.Sign && t.S == x.s
	}
	if fits {
		return empty{}
	}
	return nil
}

func (x both) behind(t lex.Token) exp {
	out := then(x.a.behind(t), x.b)
	if x.a.ends() {
		out = or(out, x.b.behind(t))
	}
	return out
}

func (x either) behind(t lex.Token) exp { return or(x.a.behind(t), x.b.behind(t)) }

func (x often) behind(t lex.Token) exp { return then(x.a.behind(t), x) }

func then(a, b exp) exp {
	if a == nil || b == nil {
		return nil
	}
	if a == (empty{}) {
		return b
	}
	return both{a, b}
}

func or(a, b exp) exp {
	if a == nil || a == b {
		return b
	}
	if b == nil {
		return a
	}
	return either{a, b}
}

// expOf is a piece of the grammar: < one of | these >, [ there or not ], { as often as wanted }.
func expOf(words []string) (exp, []string) {
	var out exp = empty{}
	for len(words) > 0 {
		w := words[0]
		words = words[1:]
		var x exp
		switch w {
		case "]", "}", ">":
			return out, words
		case "|":
			x, words = expOf(words)
			return or(out, x), words
		case "<":
			x, words = expOf(words)
		case "[":
			x, words = expOf(words)
			x = or(x, empty{})
		case "{":
			x, words = expOf(words)
			x = often{x}
		default:
			x = single{w}
		}
		out = then(out, x)
	}
	return out, nil
}

// wholeGrammar is the chapter's.
func wholeGrammar() exp {
	const (
		columns = " < * | name { , name } > "
		using   = " [ USING < TIMESTAMP number [ AND TTL number ] | TTL number > ] "
		equal   = " name = value "
		more    = " [ AND" + equal + "] "
		table   = "CREATE TABLE name ( { name < TEXT | INT > , } PRIMARY KEY ( name , name ) )"
		view    = "CREATE MATERIALIZED VIEW name AS SELECT" + columns + "FROM name WHERE name IS NOT NULL PRIMARY KEY ( name , name , name )"
		index   = "CREATE INDEX name ON name ( name )"
		insert  = "INSERT INTO name ( name { , name } ) VALUES ( value { , value } )" + using
		update  = "UPDATE name" + using + "SET" + equal + "{ ," + equal + "} WHERE" + equal + "AND" + equal
		erase   = "DELETE [ name { , name } ] FROM name [ USING TIMESTAMP number ] WHERE" + equal + more
		choice  = "SELECT" + columns + "FROM name WHERE" + equal + more + "[ LIMIT number ]"
		change  = " < " + insert + " | " + update + " | " + erase + " > ; "
	)
	batch := "BEGIN BATCH" + change + strings.Repeat("["+change, 7) + strings.Repeat("] ", 7) + "APPLY BATCH"
	all := "< " + strings.Join([]string{table, view, index, "DROP name", insert, update, erase, choice, batch}, " | ") + " > [ ; ]"
	x, _ := expOf(strings.Fields(all))
	return x
}

// strays is the number of the first token that the grammar has not there; that of the end, if it may not end there; else -1.
func strays(tokens []lex.Token, whole exp) int {
	for i, t := range tokens {
		if whole = whole.behind(t); whole == nil {
			return i
		}
	}
	if !whole.ends() {
		return len(tokens)
	}
	return -1
}

// list is tokens that fit the grammar as far as they go, with places among them.
type list []lex.Token

// find is the place of the first such word, or sign, from a place on; beyond the end if there is none.
func (l list) find(s string, from int) int {
	for i := from; i < len(l); i++ {
		if (l[i].Kind == lex.Word || l[i].Kind == lex.Sign) && l[i].S == s {
			return i
		}
	}
	return len(l)
}

// every are the tokens from a place on up to another, each so many behind the last one.
func (l list) every(from, to, step int) []int {
	var out []int
	for i := from; i < min(to, len(l)); i += step {
		out = append(out, i)
	}
	return out
}

// columnsOf are the places of a statement's columns, none of which may be there twice, and how many there may be.
func (l list) columnsOf() ([]int, int) {
	switch {
	case l[0].S == "create" && len(l) > 1 && l[1].S == "table":
		return l.every(4, l.find("primary", 4), 3), 10
	case l[0].S == "create":
		from := l.find("select", 0) + 1
		return l.every(from, l.find("from", from), 2), 8
	case l[0].S == "insert":
		return l.every(4, l.find(")", 4), 2), 10
	case l[0].S == "update":
		from := l.find("set", 0) + 1
		return l.every(from, l.find("where", from), 4), 8
	case l[0].S == "delete" || l[0].S == "select":
		return l.every(1, l.find("from", 1), 2), 8
	}
	return nil, 0
}

// wrongs are the places of tokens that the grammar has there, and that are wrong.
func (l list) wrongs() []int {
	var out []int
	if len(l) == 0 {
		return nil
	}
	places, most := l.columnsOf()
	var ahead []string
	for i, p := range places {
		if i >= most || slices.Contains(ahead, l[p].S) {
			out = append(out, p)
		}
		ahead = append(ahead, l[p].S)
	}
	for i := 1; i < len(l); i++ {
		counted := l[i-1].Kind == lex.Word && slices.Contains([]string{"timestamp", "ttl", "limit"}, l[i-1].S)
		if counted && (l[i].N < 1 || l[i].N > api.MaxStamp) {
			out = append(out, i)
		}
	}
	key := l.find("key", 0)
	switch {
	case l[0].S == "insert":
		from := l.find("values", 0) + 2
		to := l.find(")", from)
		if to < len(l) && len(l.every(from, to, 2)) != len(places) {
			out = append(out, to)
		}
	case l[0].S == "create" && l.find("table", 0) == 1:
		for _, p := range l.every(key+2, l.find(")", key), 2) {
			if !slices.Contains(ahead, l[p].S) || p == key+4 && l[p].S == l[p-2].S {
				out = append(out, p)
			}
		}
	case l[0].S == "create" && l.find("materialized", 0) == 1:
		if on := l.find("where", 0) + 1; key+2 < len(l) && l[key+2].S != l[on].S {
			out = append(out, key+2)
		}
	}
	return out
}

// parts are the statements of a batch, and where they begin; of another one it alone.
func (l list) parts() ([]list, []int) {
	if len(l) == 0 || l[0].S != "begin" {
		return []list{l}, []int{0}
	}
	var out []list
	var from []int
	for at := 2; at < len(l) && l[at].S != "apply"; {
		to := l.find(";", at)
		out = append(out, l[at:to])
		from = append(from, at)
		at = to + 1
	}
	return out, from
}

// secondParse is what Parse must answer.
func secondParse(s string, whole exp) (api.Stmt, int, api.Errno) {
	tokens, at, e := lex.All(s)
	if e != api.OK {
		return api.Stmt{}, at, e
	}
	wrong := strays(tokens, whole)
	right := list(tokens)
	if wrong >= 0 {
		right = right[:wrong]
	}
	parts, from := right.parts()
	for i, part := range parts {
		for _, p := range part.wrongs() {
			if wrong < 0 || from[i]+p < wrong {
				wrong = from[i] + p
			}
		}
	}
	if wrong == len(tokens) {
		return api.Stmt{}, utf8.RuneCountInString(s), api.ErrText
	}
	if wrong >= 0 {
		return api.Stmt{}, tokens[wrong].At, api.ErrText
	}
	x := right.stmt()
	if len(printed(x)) > 1000 {
		return api.Stmt{}, 0, api.ErrBig
	}
	return x, 0, api.OK
}

func (l list) term(at int) api.Term {
	if l[at].Kind == lex.Number {
		return api.Term{Type: 2, N: l[at].N}
	}
	return api.Term{Type: 1, S: l[at].S}
}

// behind is the number behind a word; 0 if it is not there.
func (l list) numberBehind(s string) int {
	if at := l.find(s, 0); at < len(l) {
		return l[at+1].N
	}
	return 0
}

func (l list) named(places []int) []string {
	var out []string
	for _, p := range places {
		if l[p].S != "*" {
			out = append(out, l[p].S)
		}
	}
	return out
}

// stmt is the statement that tokens without a fault are.
func (l list) stmt() api.Stmt {
	if l[0].S == "begin" {
		parts, _ := l.parts()
		x := api.Stmt{Kind: 9}
		for _, part := range parts {
			x.Parts = append(x.Parts, part.stmt())
		}
		return x
	}
	places, _ := l.columnsOf()
	where := l.find("where", 0)
	x := api.Stmt{Stamp: l.numberBehind("timestamp"), TTL: l.numberBehind("ttl"), Limit: l.numberBehind("limit")}
	if l[0].S != "create" && where < len(l) {
		for _, p := range l.every(where+1, where+8, 4) {
			if p == where+1 || l[p-1].S == "and" {
				x.Where = append(x.Where, api.Pair{Name: l[p].S, Term: l.term(p + 2)})
			}
		}
	}
	switch l[0].S {
	case "create":
		return l.created(places)
	case "drop":
		x.Kind, x.Name = 4, l[1].S
	case "insert":
		x.Kind, x.Of = 5, l[2].S
		for i, p := range places {
			x.Sets = append(x.Sets, api.Pair{Name: l[p].S, Term: l.term(l.find("values", 0) + 2 + 2*i)})
		}
	case "update":
		x.Kind, x.Of = 6, l[1].S
		for _, p := range places {
			x.Sets = append(x.Sets, api.Pair{Name: l[p].S, Term: l.term(p + 2)})
		}
	case "delete":
		x.Kind, x.Of, x.Cols = 7, l[l.find("from", 0)+1].S, l.named(places)
	case "select":
		x.Kind, x.Of, x.Cols = 8, l[l.find("from", 0)+1].S, l.named(places)
	}
	return x
}

func (l list) created(places []int) api.Stmt {
	key := l.find("key", 0)
	switch l[1].S {
	case "table":
		t := api.Table{Name: l[2].S}
		for _, p := range places {
			c := api.Column{Name: l[p].S, Type: map[string]int{"text": 1, "int": 2}[l[p+1].S]}
			switch c.Name {
			case l[key+2].S:
				t.Part = c
			case l[key+4].S:
				t.Clus = c
			default:
				t.Cols = append(t.Cols, c)
			}
		}
		return api.Stmt{Kind: 1, Name: t.Name, Table: t}
	case "index":
		return api.Stmt{Kind: 3, Name: l[2].S, Of: l[4].S, On: l[6].S}
	}
	others := []api.Pair{{Name: l[key+4].S}, {Name: l[key+6].S}}
	return api.Stmt{Kind: 2, Name: l[3].S, Cols: l.named(places), Of: l[l.find("from", 0)+1].S, On: l[key+2].S, Where: others}
}

// printed is a statement's text by hand, as layer 15 is to print it.
func printed(x api.Stmt) string {
	cols := func(none string) string {
		if len(x.Cols) == 0 {
			return none
		}
		return strings.Join(x.Cols, ", ")
	}
	var names, vals, sets, where []string
	for _, p := range x.Sets {
		names, vals, sets = append(names, p.Name), append(vals, printedTerm(p.Term)), append(sets, p.Name+" = "+printedTerm(p.Term))
	}
	for _, p := range x.Where {
		where = append(where, p.Name+" = "+printedTerm(p.Term))
	}
	key := " WHERE " + strings.Join(where, " AND ")
	switch x.Kind {
	case 1:
		s := "CREATE TABLE " + x.Name + " ("
		for _, c := range append([]api.Column{x.Table.Part, x.Table.Clus}, x.Table.Cols...) {
			s += c.Name + map[int]string{1: " TEXT, ", 2: " INT, "}[c.Type]
		}
		return s + "PRIMARY KEY (" + x.Table.Part.Name + ", " + x.Table.Clus.Name + "))"
	case 2:
		return "CREATE MATERIALIZED VIEW " + x.Name + " AS SELECT " + cols("*") + " FROM " + x.Of + " WHERE " + x.On + " IS NOT NULL PRIMARY KEY (" + x.On + ", " + x.Where[0].Name + ", " + x.Where[1].Name + ")"
	case 3:
		return "CREATE INDEX " + x.Name + " ON " + x.Of + " (" + x.On + ")"
	case 4:
		return "DROP " + x.Name
	case 5:
		return "INSERT INTO " + x.Of + " (" + strings.Join(names, ", ") + ") VALUES (" + strings.Join(vals, ", ") + ")" + printedUsing(x)
	case 6:
		return "UPDATE " + x.Of + printedUsing(x) + " SET " + strings.Join(sets, ", ") + key
	case 7:
		return strings.TrimSuffix("DELETE "+cols(""), " ") + " FROM " + x.Of + printedUsing(x) + key
	case 8:
		s := "SELECT " + cols("*") + " FROM " + x.Of + key
		if x.Limit != 0 {
			s += " LIMIT " + strconv.Itoa(x.Limit)
		}
		return s
	}
	s := "BEGIN BATCH "
	for _, part := range x.Parts {
		s += printed(part) + "; "
	}
	return s + "APPLY BATCH"
}

func printedTerm(t api.Term) string {
	if t.Type == 2 {
		return strconv.Itoa(t.N)
	}
	return "'" + strings.ReplaceAll(t.S, "'", "''") + "'"
}

func printedUsing(x api.Stmt) string {
	stamp, ttl := "TIMESTAMP "+strconv.Itoa(x.Stamp), "TTL "+strconv.Itoa(x.TTL)
	switch {
	case x.Stamp != 0 && x.TTL != 0:
		return " USING " + stamp + " AND " + ttl
	case x.Stamp != 0:
		return " USING " + stamp
	case x.TTL != 0:
		return " USING " + ttl
	}
	return ""
}

// alike tells whether two statements are, where an empty list is none.
func alike(a, b api.Stmt) bool {
	return reflect.DeepEqual(bare(a), bare(b))
}

// bare is a statement with new lists, the empty ones nil.
func bare(x api.Stmt) api.Stmt {
	x.Cols = append([]string(nil), x.Cols...)
	x.Sets = append([]api.Pair(nil), x.Sets...)
	x.Where = append([]api.Pair(nil), x.Where...)
	x.Table.Cols = append([]api.Column(nil), x.Table.Cols...)
	var parts []api.Stmt
	for _, part := range x.Parts {
		parts = append(parts, bare(part))
	}
	x.Parts = parts
	return x
}

// held tells of an answer that the second reading does not give; of one without an error, also if Check says no, or its text is not parsed as it.
func held(t *testing.T, s string, whole exp) {
	t.Helper()
	got, at, e := Parse(s)
	want, wantAt, wantE := secondParse(s, whole)
	if !alike(got, want) || at != wantAt || e != wantE {
		t.Errorf("Parse(%q): %+v, %d, %d, want %+v, %d, %d", s, got, at, e, want, wantAt, wantE)
	}
	if e != api.OK {
		return
	}
	back, at, e := Parse(printed(want))
	if !Check(got) || !alike(back, want) || at != 0 || e != api.OK {
		t.Errorf("of %q: %t; back %+v, %d, %d", s, Check(got), back, at, e)
	}
}
