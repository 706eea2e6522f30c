package print

import (
	"strings"
	"testing"

	"clerestory/api"
	"clerestory/parse"
)

const (
	// The least and the greatest numbers there may be.
	least = -api.MaxInt
	most  = api.MaxInt
)

func aText(name, s string) api.Pair {
	return api.Pair{Name: name, Term: api.Term{Type: api.Text, S: s}}
}

func aNumber(name string, n int) api.Pair {
	return api.Pair{Name: name, Term: api.Term{Type: api.Int, N: n}}
}

// prints tells of a text of x that is another one, or that is not parsed as x.
func prints(t *testing.T, x api.Stmt, want string) {
	t.Helper()
	if got := Text(x); got != want {
		t.Errorf("Text(%+v): %q, want %q", x, got, want)
	}
	if back, at, e := parse.Parse(want); !alike(back, x) || at != 0 || e != api.OK {
		t.Errorf("Parse(%q): %+v, %d, %d, want %+v", want, back, at, e, x)
	}
}

// reprints tells of what is printed of a parsed text, if it is another one.
func reprints(t *testing.T, s, want string) {
	t.Helper()
	x, _, e := parse.Parse(s)
	if e != api.OK {
		t.Errorf("Parse(%q): %d", s, e)
	}
	prints(t, x, want)
}

// P15.1, P15.2

func TestCreateTable(t *testing.T) {
	p, k := api.Column{Name: "p", Type: api.Text}, api.Column{Name: "k", Type: api.Int}
	a, b := api.Column{Name: "a", Type: api.Int}, api.Column{Name: "b", Type: api.Text}
	x := api.Stmt{Kind: api.CreateTable, Name: "t", Table: api.Table{Name: "t", Part: p, Clus: k}}
	prints(t, x, "CREATE TABLE t (p TEXT, k INT, PRIMARY KEY (p, k))")
	x.Table.Cols = []api.Column{b, a}
	prints(t, x, "CREATE TABLE t (p TEXT, k INT, b TEXT, a INT, PRIMARY KEY (p, k))")
	x.Table.Cols = []api.Column{a, b}
	prints(t, x, "CREATE TABLE t (p TEXT, k INT, a INT, b TEXT, PRIMARY KEY (p, k))")
	x.Table.Part, x.Table.Clus = k, p
	prints(t, x, "CREATE TABLE t (k INT, p TEXT, a INT, b TEXT, PRIMARY KEY (k, p))")
	x.Table = api.Table{Name: "t", Part: a, Clus: b, Cols: []api.Column{}}
	prints(t, x, "CREATE TABLE t (a INT, b TEXT, PRIMARY KEY (a, b))")
}

// P15.1: the columns are the key's first, wherever they stood.
func TestCreateTableOfText(t *testing.T) {
	for _, s := range []string{"p text,k int,b text,a int", "k int,p text,b text,a int", "b text,k int,p text,a int", "b text,a int,k int,p text", "p text,b text,a int,k int"} {
		reprints(t, "create table t("+s+",primary key(p,k))", "CREATE TABLE t (p TEXT, k INT, b TEXT, a INT, PRIMARY KEY (p, k))")
		reprints(t, "create table t("+s+",primary key(k,p));", "CREATE TABLE t (k INT, p TEXT, b TEXT, a INT, PRIMARY KEY (k, p))")
		reprints(t, "create table t("+s+",primary key(a,b));", "CREATE TABLE t (a INT, b TEXT, "+kept(s)+", PRIMARY KEY (a, b))")
	}
}

// kept are the columns p and k of a list in great letters, in its order.
func kept(s string) string {
	if strings.Index(s, "p text") < strings.Index(s, "k int") {
		return "p TEXT, k INT"
	}
	return "k INT, p TEXT"
}

func TestCreateView(t *testing.T) {
	x := api.Stmt{Kind: api.CreateView, Name: "v", Of: "t", On: "a", Where: []api.Pair{{Name: "p"}, {Name: "k"}}}
	prints(t, x, "CREATE MATERIALIZED VIEW v AS SELECT * FROM t WHERE a IS NOT NULL PRIMARY KEY (a, p, k)")
	x.Cols = []string{"c"}
	prints(t, x, "CREATE MATERIALIZED VIEW v AS SELECT c FROM t WHERE a IS NOT NULL PRIMARY KEY (a, p, k)")
	x.Cols = []string{"c", "a", "b"}
	x.Where = []api.Pair{{Name: "k"}, {Name: "a"}}
	prints(t, x, "CREATE MATERIALIZED VIEW v AS SELECT c, a, b FROM t WHERE a IS NOT NULL PRIMARY KEY (a, k, a)")
}

func TestCreateIndex(t *testing.T) {
	prints(t, api.Stmt{Kind: api.CreateIndex, Name: "i", Of: "t", On: "a"}, "CREATE INDEX i ON t (a)")
	reprints(t, "CREATE  INDEX  I  ON  T  (  A  )  ;", "CREATE INDEX i ON t (a)")
}

func TestDrop(t *testing.T) {
	reprints(t, "drop   V ;", "DROP v")
	prints(t, api.Stmt{Kind: api.Drop, Name: "v"}, "DROP v")
}

func TestInsert(t *testing.T) {
	x := api.Stmt{Kind: api.Insert, Of: "t", Sets: []api.Pair{aText("p", "x")}}
	prints(t, x, "INSERT INTO t (p) VALUES ('x')")
	x.Sets = []api.Pair{aText("p", "x"), aNumber("k", -5), aText("a", "")}
	prints(t, x, "INSERT INTO t (p, k, a) VALUES ('x', -5, '')")
	x.Stamp = 5
	prints(t, x, "INSERT INTO t (p, k, a) VALUES ('x', -5, '') USING TIMESTAMP 5")
	x.TTL = 9
	prints(t, x, "INSERT INTO t (p, k, a) VALUES ('x', -5, '') USING TIMESTAMP 5 AND TTL 9")
	x.Stamp = 0
	prints(t, x, "INSERT INTO t (p, k, a) VALUES ('x', -5, '') USING TTL 9")
}

func TestUpdate(t *testing.T) {
	x := api.Stmt{Kind: api.Update, Of: "t", Sets: []api.Pair{aNumber("a", 1)}, Where: []api.Pair{aText("p", "x"), aNumber("k", 2)}}
	prints(t, x, "UPDATE t SET a = 1 WHERE p = 'x' AND k = 2")
	x.Sets = []api.Pair{aNumber("b", 1), aText("a", "y"), aNumber("c", -1)}
	prints(t, x, "UPDATE t SET b = 1, a = 'y', c = -1 WHERE p = 'x' AND k = 2")
	x.TTL = 9
	prints(t, x, "UPDATE t USING TTL 9 SET b = 1, a = 'y', c = -1 WHERE p = 'x' AND k = 2")
	x.Stamp = 5
	prints(t, x, "UPDATE t USING TIMESTAMP 5 AND TTL 9 SET b = 1, a = 'y', c = -1 WHERE p = 'x' AND k = 2")
	x.TTL = 0
	prints(t, x, "UPDATE t USING TIMESTAMP 5 SET b = 1, a = 'y', c = -1 WHERE p = 'x' AND k = 2")
}

func TestDelete(t *testing.T) {
	x := api.Stmt{Kind: api.Delete, Of: "t", Where: []api.Pair{aText("p", "x")}}
	prints(t, x, "DELETE FROM t WHERE p = 'x'")
	x.Where = append(x.Where, aNumber("k", 2))
	prints(t, x, "DELETE FROM t WHERE p = 'x' AND k = 2")
	x.Cols = []string{"b"}
	prints(t, x, "DELETE b FROM t WHERE p = 'x' AND k = 2")
	x.Cols = []string{"b", "a", "c"}
	x.Stamp = 3
	prints(t, x, "DELETE b, a, c FROM t USING TIMESTAMP 3 WHERE p = 'x' AND k = 2")
	x.Cols = []string{}
	prints(t, x, "DELETE FROM t USING TIMESTAMP 3 WHERE p = 'x' AND k = 2")
}

func TestSelect(t *testing.T) {
	x := api.Stmt{Kind: api.Select, Of: "t", Where: []api.Pair{aText("p", "x")}}
	prints(t, x, "SELECT * FROM t WHERE p = 'x'")
	x.Limit = 1
	prints(t, x, "SELECT * FROM t WHERE p = 'x' LIMIT 1")
	x.Cols = []string{"b", "a"}
	prints(t, x, "SELECT b, a FROM t WHERE p = 'x' LIMIT 1")
	x.Where = append(x.Where, aText("p", "x"))
	x.Limit = 0
	prints(t, x, "SELECT b, a FROM t WHERE p = 'x' AND p = 'x'")
}

func TestBatch(t *testing.T) {
	key := []api.Pair{aNumber("p", 1), aNumber("k", 2)}
	erase := api.Stmt{Kind: api.Delete, Of: "t", Where: key[:1]}
	update := api.Stmt{Kind: api.Update, Of: "u", TTL: 7, Sets: key[:1], Where: key}
	insert := api.Stmt{Kind: api.Insert, Of: "v", Sets: key}
	x := api.Stmt{Kind: api.Batched, Parts: []api.Stmt{erase}}
	prints(t, x, "BEGIN BATCH DELETE FROM t WHERE p = 1; APPLY BATCH")
	x.Parts = []api.Stmt{update, erase, insert}
	prints(t, x, "BEGIN BATCH UPDATE u USING TTL 7 SET p = 1 WHERE p = 1 AND k = 2; DELETE FROM t WHERE p = 1; INSERT INTO v (p, k) VALUES (1, 2); APPLY BATCH")
	x.Parts = []api.Stmt{erase, erase, erase, erase, erase, erase, erase, erase}
	prints(t, x, "BEGIN BATCH"+strings.Repeat(" DELETE FROM t WHERE p = 1;", 8)+" APPLY BATCH")
}

// P15.1: texts quoted, whatever is in them; numbers as digits.
func TestValues(t *testing.T) {
	of := func(value string) string { return "SELECT * FROM t WHERE p = " + value }
	for s, quoted := range map[string]string{
		"":                                 "''",
		"x":                                "'x'",
		"X":                                "'X'",
		"'":                                "''''",
		"''":                               "''''''",
		"it's":                             "'it''s'",
		"'a'b'":                            "'''a''b'''",
		"5":                                "'5'",
		"(":                                "'('",
		" ( a , b ) ; ":                    "' ( a , b ) ; '",
		"-- so":                            "'-- so'",
		"a\tb\r\nc":                        "'a\tb\r\nc'",
		"\x00":                             "'\x00'",
		"\\\"`":                            "'\\\"`'",
		"\u00e9\u20ac\U0001d4b3":           "'\u00e9\u20ac\U0001d4b3'",
		"\ufffd":                           "'\ufffd'",
		strings.Repeat("'", 100):           "'" + strings.Repeat("''", 100) + "'",
		strings.Repeat("y ", 50):           "'" + strings.Repeat("y ", 50) + "'",
		strings.Repeat("'y", 50):           "'" + strings.Repeat("''y", 50) + "'",
		strings.Repeat("\xe2\x82\xac", 33): "'" + strings.Repeat("\u20ac", 33) + "'",
	} {
		prints(t, api.Stmt{Kind: api.Select, Of: "t", Where: []api.Pair{aText("p", s)}}, of(quoted))
	}
	for n, digits := range map[int]string{0: "0", 7: "7", -1: "-1", 10: "10", 300: "300", most: "1099511627776", most - 1: "1099511627775", least: "-1099511627776"} {
		prints(t, api.Stmt{Kind: api.Select, Of: "t", Where: []api.Pair{aNumber("p", n)}}, of(digits))
	}
	for written, digits := range map[string]string{"007": "7", "-0": "0", "-007": "-7", "00": "0"} {
		reprints(t, of(written), of(digits))
	}
	for _, n := range []int{1, 2, api.MaxStamp - 1, api.MaxStamp} {
		x := api.Stmt{Kind: api.Insert, Of: "t", Sets: []api.Pair{aNumber("p", 1)}, Stamp: n, TTL: n}
		front := "INSERT INTO t (p) VALUES (1) USING"
		digits := map[int]string{1: "1", 2: "2", most - 1: "1099511627775", most: "1099511627776"}[n]
		prints(t, x, front+" TIMESTAMP "+digits+" AND TTL "+digits)
		prints(t, api.Stmt{Kind: api.Select, Of: "t", Where: x.Sets, Limit: n}, of("1 LIMIT ")+digits)
	}
}

// P15.1: names and columns as they are, also such as are nearly the grammar's words, or have other letters.
func TestNames(t *testing.T) {
	for _, name := range []string{"v", "_", "_9", "a1", "ok", "tables", "tabl", "selec", "true", "order", "\u00c9t\u00e9", "\u00c4", "\u0130", "\ufffd", "\U0001d4b3", "k\u212a", strings.Repeat("n", 100), strings.Repeat("\u00e9", 50)} {
		prints(t, api.Stmt{Kind: api.Drop, Name: name}, "DROP "+name)
		prints(t, api.Stmt{Kind: api.CreateIndex, Name: name, Of: name, On: name}, "CREATE INDEX "+name+" ON "+name+" ("+name+")")
		p := api.Column{Name: name, Type: api.Text}
		k := api.Column{Name: "k", Type: api.Text}
		prints(t, api.Stmt{Kind: api.CreateTable, Name: name, Table: api.Table{Name: name, Part: k, Clus: p}}, "CREATE TABLE "+name+" (k TEXT, "+name+" TEXT, PRIMARY KEY (k, "+name+"))")
		prints(t, api.Stmt{Kind: api.Select, Of: name, Cols: []string{name}, Where: []api.Pair{aNumber(name, 1)}}, "SELECT "+name+" FROM "+name+" WHERE "+name+" = 1")
	}
}

// P15.1: empty, if parse's Check says no.
func TestNone(t *testing.T) {
	key := []api.Pair{aNumber("p", 1), aNumber("k", 2)}
	p, k := api.Column{Name: "p", Type: api.Text}, api.Column{Name: "k", Type: api.Int}
	for i, x := range []api.Stmt{
		{},
		{Kind: -1, Name: "v"},
		{Kind: 10, Name: "v"},
		{Kind: 99, Name: "v"},
		{Kind: api.Drop},
		{Kind: api.Drop, Name: "V"},
		{Kind: api.Drop, Name: "drop"},
		{Kind: api.Drop, Name: "v w"},
		{Kind: api.Drop, Name: "v;"},
		{Kind: api.Drop, Name: "v\xff"},
		{Kind: api.Drop, Name: "5"},
		{Kind: api.Drop, Name: strings.Repeat("v", 101)},
		{Kind: api.Drop, Name: "v", Of: "t"},
		{Kind: api.Drop, Name: "v", On: "t"},
		{Kind: api.Drop, Name: "v", Limit: 1},
		{Kind: api.Drop, Name: "v", Stamp: 1},
		{Kind: api.Drop, Name: "v", TTL: 1},
		{Kind: api.Drop, Name: "v", Cols: []string{"a"}},
		{Kind: api.Drop, Name: "v", Sets: key},
		{Kind: api.Drop, Name: "v", Where: key},
		{Kind: api.Drop, Name: "v", Parts: []api.Stmt{{}}},
		{Kind: api.Drop, Name: "v", Table: api.Table{Name: "v"}},
		{Kind: api.CreateTable, Name: "t"},
		{Kind: api.CreateTable, Name: "t", Table: api.Table{Part: p, Clus: k}},
		{Kind: api.CreateTable, Name: "t", Table: api.Table{Name: "t", ID: 1, Part: p, Clus: k}},
		{Kind: api.CreateTable, Name: "t", Table: api.Table{Name: "t", Part: p, Clus: p}},
		{Kind: api.CreateTable, Name: "t", Table: api.Table{Name: "t", Part: p, Clus: k, Cols: []api.Column{p}}},
		{Kind: api.CreateTable, Name: "t", Table: api.Table{Name: "t", Part: p, Clus: api.Column{Name: "k", Type: 3}}},
		{Kind: api.CreateView, Name: "v", Of: "t", On: "a"},
		{Kind: api.CreateView, Name: "v", Of: "t", On: "a", Where: key},
		{Kind: api.CreateView, Name: "v", Of: "t", On: "a", Where: []api.Pair{{Name: "p"}}},
		{Kind: api.CreateView, Name: "v", Of: "t", On: "a", Where: []api.Pair{{Name: "p"}, {Name: "k"}, {Name: "c"}}},
		{Kind: api.CreateView, Name: "v", Of: "t", On: "a", Where: []api.Pair{{Name: "p"}, {Name: "k"}}, Cols: []string{"b", "b"}},
		{Kind: api.CreateIndex, Name: "i", Of: "t"},
		{Kind: api.Insert, Of: "t"},
		{Kind: api.Insert, Of: "t", Sets: []api.Pair{{Name: "p"}}},
		{Kind: api.Insert, Of: "t", Sets: []api.Pair{aNumber("p", most+1)}},
		{Kind: api.Insert, Of: "t", Sets: []api.Pair{aText("p", "\xff")}},
		{Kind: api.Insert, Of: "t", Sets: []api.Pair{aText("p", strings.Repeat("x", 101))}},
		{Kind: api.Insert, Of: "t", Sets: []api.Pair{{Name: "p", Term: api.Term{Type: api.Text, S: "x", N: 1}}}},
		{Kind: api.Insert, Of: "t", Sets: key, Where: key},
		{Kind: api.Insert, Of: "t", Sets: key, Stamp: -1},
		{Kind: api.Insert, Of: "t", Sets: key, TTL: api.MaxStamp + 1},
		{Kind: api.Update, Of: "t", Sets: key, Where: key[:1]},
		{Kind: api.Update, Of: "t", Where: key},
		{Kind: api.Delete, Of: "t"},
		{Kind: api.Delete, Of: "t", Where: key, TTL: 1},
		{Kind: api.Select, Of: "t"},
		{Kind: api.Select, Of: "t", Where: key, Limit: -1},
		{Kind: api.Select, Of: "t", Where: key, Cols: []string{"*"}},
		{Kind: api.Batched},
		{Kind: api.Batched, Parts: []api.Stmt{{}}},
		{Kind: api.Batched, Parts: []api.Stmt{{Kind: api.Drop, Name: "v"}}},
		{Kind: api.Batched, Parts: []api.Stmt{{Kind: api.Insert, Of: "t", Sets: key}, {Kind: api.Insert, Of: "t"}}},
		{Kind: api.Batched, Parts: []api.Stmt{{Kind: api.Batched, Parts: []api.Stmt{{Kind: api.Insert, Of: "t", Sets: key}}}}},
	} {
		if got := Text(x); got != "" || parse.Check(x) {
			t.Errorf("%d: Text(%+v): %q", i, x, got)
		}
	}
}

// P15.1: a text of as many bytes as there may be is there, of one more none.
func TestGreatest(t *testing.T) {
	for _, x := range greatest() {
		got := Text(x)
		if len(got) != api.MaxStmt {
			t.Errorf("Text(%+v): %d bytes", x, len(got))
		}
		prints(t, x, got)
		if longer := Text(lengthened(x)); longer != "" {
			t.Errorf("of one byte more: %q", longer)
		}
	}
}

// greatest are statements of MaxStmt bytes, one of each kind that reaches them.
func greatest() []api.Stmt {
	var all []api.Stmt
	for _, x := range long() {
		for room := api.MaxStmt - len(Text(x)); room > 0; room = api.MaxStmt - len(Text(x)) {
			widen(&x, min(room, 99))
		}
		all = append(all, x)
	}
	return all
}

// long are statements of some hundred bytes, with columns of one letter.
func long() []api.Stmt {
	letters := strings.Split("abcdefgh", "")
	var sets []api.Pair
	var cols []api.Column
	for _, name := range letters {
		sets = append(sets, aText(name, strings.Repeat("'", 10)))
		cols = append(cols, api.Column{Name: name, Type: api.Int})
	}
	key := []api.Pair{aText("p", strings.Repeat("'", 40)), aText("k", strings.Repeat("'", 40))}
	name := strings.Repeat("n", 60)
	table := api.Table{Name: name, Part: api.Column{Name: name + "p", Type: 1}, Clus: api.Column{Name: "k", Type: 2}, Cols: cols}
	insert := api.Stmt{Kind: api.Insert, Of: "t", Sets: sets}
	return []api.Stmt{
		{Kind: api.CreateTable, Name: name, Table: table},
		{Kind: api.CreateView, Name: name, Of: name, On: "a", Cols: letters, Where: []api.Pair{{Name: "p"}, {Name: "k"}}},
		insert,
		{Kind: api.Update, Of: "t", Sets: sets, Where: key},
		{Kind: api.Delete, Of: "t", Cols: letters, Where: key},
		{Kind: api.Select, Of: "t", Cols: letters, Where: key},
		{Kind: api.Batched, Parts: []api.Stmt{insert, insert}},
	}
}

// widen makes the first column of one letter so much longer, in lists of its own.
func widen(x *api.Stmt, by int) {
	*x = bare(*x)
	more := strings.Repeat("n", by)
	for i := range x.Cols {
		if len(x.Cols[i]) == 1 {
			x.Cols[i] += more
			return
		}
	}
	for i := range x.Table.Cols {
		if len(x.Table.Cols[i].Name) == 1 {
			x.Table.Cols[i].Name += more
			return
		}
	}
	for i := range x.Sets {
		if len(x.Sets[i].Name) == 1 {
			x.Sets[i].Name += more
			return
		}
	}
	widen(&x.Parts[0], by)
}

// lengthened is a statement with a name that is one byte longer.
func lengthened(x api.Stmt) api.Stmt {
	x = bare(x)
	switch {
	case x.Kind == api.CreateView:
		x.Name += "n"
	case x.Kind == api.CreateTable:
		x.Name += "n"
		x.Table.Name += "n"
	case x.Kind == api.Batched:
		x.Parts[1].Of += "n"
	default:
		x.Of += "n"
	}
	return x
}

// R1: whatever is handed in, it ends.
func TestMuch(t *testing.T) {
	many := make([]string, 1<<17)
	pairs := make([]api.Pair, 1<<17)
	cols := make([]api.Column, 1<<17)
	deep := api.Stmt{Kind: api.Batched}
	for range 100000 {
		deep = api.Stmt{Kind: api.Batched, Parts: []api.Stmt{deep}}
	}
	for kind := -1; kind <= 11; kind++ {
		for _, x := range []api.Stmt{{Cols: many}, {Sets: pairs}, {Where: pairs}, {Table: api.Table{Cols: cols}}, {Parts: make([]api.Stmt, 1<<12)}, {Name: strings.Repeat("n", 1<<20)}, deep} {
			x.Kind = kind
			if got := Text(x); got != "" {
				t.Errorf("%d: %q", kind, got)
			}
		}
	}
}
