package parse

import (
	"slices"
	"strconv"
	"strings"
	"testing"

	"clerestory/api"
)

func aText(name, s string) api.Pair {
	return api.Pair{Name: name, Term: api.Term{Type: api.Text, S: s}}
}

func aNumber(name string, n int) api.Pair {
	return api.Pair{Name: name, Term: api.Term{Type: api.Int, N: n}}
}

// gives tells of an answer for s that is not this statement.
func gives(t *testing.T, s string, want api.Stmt) {
	t.Helper()
	got, at, e := Parse(s)
	if !alike(got, want) || at != 0 || e != api.OK || !Check(got) {
		t.Errorf("Parse(%q): %+v, %d, %d, %t, want %+v", s, got, at, e, Check(got), want)
	}
}

// fails tells of an answer for s that is not ErrText where the bar stands in it: ahead of the token that is wrong.
func fails(t *testing.T, s string) {
	t.Helper()
	front, back, ok := strings.Cut(s, "|")
	got, at, e := Parse(front + back)
	if want := len([]rune(front)); !ok || !alike(got, api.Stmt{}) || at != want || e != api.ErrText {
		t.Errorf("Parse(%q): %+v, %d, %d, want ErrText at %d", front+back, got, at, e, want)
	}
}

// letters are so many columns, or values, with commas between.
func letters(n int) string {
	return strings.Join(strings.Split("abcdefghijklmno"[:n], ""), ",")
}

func digits(n int) string {
	return strings.Join(strings.Split("123456789123456"[:n], ""), ",")
}

// P14.1, P14.2

func TestCreateTable(t *testing.T) {
	p, k := api.Column{Name: "p", Type: api.Text}, api.Column{Name: "k", Type: api.Int}
	a, b := api.Column{Name: "a", Type: api.Int}, api.Column{Name: "b", Type: api.Text}
	want := api.Stmt{Kind: 1, Name: "t", Table: api.Table{Name: "t", Part: p, Clus: k}}
	gives(t, "CREATE TABLE t (p TEXT, k INT, PRIMARY KEY (p, k))", want)
	gives(t, "create table t (k int, p text, primary key (p, k));", want)
	want.Table.Cols = []api.Column{b, a}
	gives(t, "create table t (b text, k int, p text, a int, primary key (p, k))", want)
	gives(t, "create table t (p text, b text, a int, k int, primary key (p, k))", want)
	want.Table.Part, want.Table.Clus = k, p
	gives(t, "create table t (b text, k int, p text, a int, primary key (k, p))", want)
	gives(t, "create table t (t text, u text, primary key (t, u))", api.Stmt{Kind: 1, Name: "t", Table: api.Table{Name: "t", Part: api.Column{Name: "t", Type: 1}, Clus: api.Column{Name: "u", Type: 1}}})
}

func TestCreateView(t *testing.T) {
	want := api.Stmt{Kind: 2, Name: "v", Of: "t", On: "a", Where: []api.Pair{{Name: "p"}, {Name: "k"}}}
	gives(t, "CREATE MATERIALIZED VIEW v AS SELECT * FROM t WHERE a IS NOT NULL PRIMARY KEY (a, p, k)", want)
	want.Cols = []string{"c"}
	gives(t, "create materialized view v as select c from t where a is not null primary key (a, p, k)", want)
	want.Cols = []string{"c", "a", "b"}
	gives(t, "create materialized view v as select c, a, b from t where a is not null primary key (a, p, k);", want)
	want.Where = []api.Pair{{Name: "a"}, {Name: "a"}} // what is so of the others, schema tells
	gives(t, "create materialized view v as select c, a, b from t where a is not null primary key (a, a, a)", want)
}

func TestCreateIndexAndDrop(t *testing.T) {
	gives(t, "CREATE INDEX i ON t (a)", api.Stmt{Kind: 3, Name: "i", Of: "t", On: "a"})
	gives(t, "create index a on a(a);", api.Stmt{Kind: 3, Name: "a", Of: "a", On: "a"})
	gives(t, "drop   V ;", api.Stmt{Kind: 4, Name: "v"})
	gives(t, "Drop \u00c9T\u00e9_9", api.Stmt{Kind: 4, Name: "\u00c9t\u00e9_9"})
}

func TestInsert(t *testing.T) {
	want := api.Stmt{Kind: 5, Of: "t", Sets: []api.Pair{aText("p", "It's")}}
	gives(t, "INSERT INTO t (p) VALUES ('It''s')", want)
	want.Sets = []api.Pair{aText("p", ""), aNumber("k", -5), aText("b", "from"), aNumber("a", 0)}
	gives(t, "insert into t (p, k, b, a) values ('', -5, 'from', -0);", want)
	want.Stamp = 5
	gives(t, "insert into t (p, k, b, a) values ('', -5, 'from', 0) using timestamp 5", want)
	want.TTL = 9
	gives(t, "insert into t (p, k, b, a) values ('', -5, 'from', 0) using timestamp 5 and ttl 9;", want)
	want.Stamp = 0
	gives(t, "insert into t (p, k, b, a) values ('', -5, 'from', 0) using ttl 009", want)
}

func TestUpdate(t *testing.T) {
	want := api.Stmt{Kind: 6, Of: "t", Sets: []api.Pair{aNumber("a", 1)}, Where: []api.Pair{aText("p", "x"), aNumber("k", 2)}}
	gives(t, "UPDATE t SET a = 1 WHERE p = 'x' AND k = 2", want)
	want.Sets = append(want.Sets, aText("p", "\u20ac"))
	want.Where = []api.Pair{aNumber("k", 2), aNumber("k", 2)}
	gives(t, "update t set a = 1, p = '\u20ac' where k = 2 and k = 2;", want)
	want.Stamp = 1 << 40
	gives(t, "update t using timestamp 1099511627776 set a = 1, p = '\u20ac' where k = 2 and k = 2", want)
	want.TTL = 1
	gives(t, "update t using timestamp 1099511627776 and ttl 1 set a = 1, p = '\u20ac' where k = 2 and k = 2", want)
	want.Stamp = 0
	gives(t, "update t using ttl 1 set a = 1, p = '\u20ac' where k = 2 and k = 2", want)
}

func TestDelete(t *testing.T) {
	want := api.Stmt{Kind: 7, Of: "t", Where: []api.Pair{aText("p", "x")}}
	gives(t, "DELETE FROM t WHERE p = 'x'", want)
	want.Where = append(want.Where, aNumber("k", 2))
	gives(t, "delete from t where p = 'x' and k = 2;", want)
	want.Cols = []string{"b"}
	gives(t, "delete b from t where p = 'x' and k = 2;", want)
	want.Cols, want.Stamp = []string{"b", "p", "a"}, 3
	gives(t, "delete b, p, a from t using timestamp 3 where p = 'x' and k = 2", want)
}

func TestSelect(t *testing.T) {
	want := api.Stmt{Kind: 8, Of: "t", Where: []api.Pair{aText("p", "x")}}
	gives(t, "SELECT * FROM t WHERE p = 'x'", want)
	want.Where, want.Limit = append(want.Where, aNumber("k", 2)), 1<<40
	gives(t, "select * from t where p = 'x' and k = 2 limit 1099511627776;", want)
	want.Cols, want.Limit = []string{"b"}, 1
	gives(t, "select b from t where p = 'x' and k = 2 limit 1", want)
	want.Cols, want.Limit = []string{"b", "p", "a"}, 0
	gives(t, "select b, p, a from t where p = 'x' and k = 2", want)
}

func TestBatch(t *testing.T) {
	one := api.Stmt{Kind: 7, Of: "t", Where: []api.Pair{aNumber("p", 1)}}
	two := api.Stmt{Kind: 5, Of: "u", Sets: []api.Pair{aNumber("a", 2)}, TTL: 4}
	three := api.Stmt{Kind: 6, Of: "t", Sets: []api.Pair{aNumber("a", 1)}, Where: []api.Pair{aText("p", "x"), aNumber("k", 2)}, Stamp: 5}
	gives(t, "BEGIN BATCH DELETE FROM t WHERE p = 1; APPLY BATCH", api.Stmt{Kind: 9, Parts: []api.Stmt{one}})
	gives(t, "begin batch insert into u (a) values (2) using ttl 4; update t using timestamp 5 set a = 1 where p = 'x' and k = 2; delete from t where p = 1; apply batch;", api.Stmt{Kind: 9, Parts: []api.Stmt{two, three, one}})
	eight := slices.Repeat([]api.Stmt{one}, 8)
	gives(t, "begin batch "+strings.Repeat("delete from t where p = 1; ", 8)+"apply batch", api.Stmt{Kind: 9, Parts: eight})
}

func TestGrammarsWordsAreNoNames(t *testing.T) {
	for _, w := range strings.Fields("create TABLE primary key materialized view as select from where is not null index on drop insert into values using update set and delete timestamp limit begin batch apply text int ttl") {
		fails(t, "drop |"+w)
		if w != "primary" { // that may stand there
			fails(t, "create table t (|"+w+" text, k int, primary key (p, k))")
		}
		fails(t, "create table t (p text, "+strings.Replace("|"+w+" text", "|primary ", "primary |", 1)+", primary key (p, k))")
		fails(t, "create index |"+w+" on t (a)")
		fails(t, "create index i on |"+w+" (a)")
		fails(t, "create index i on t (|"+w+")")
		fails(t, "insert into t (p, |"+w+") values (1, 2)")
		fails(t, "update |"+w+" set a = 1 where p = 1 and k = 1")
		fails(t, "update t set |"+w+" = 1 where p = 1 and k = 1")
		fails(t, "update t set a = |"+w+" where p = 1 and k = 1")
		fails(t, "select a, |"+w+" from t where p = 1")
		fails(t, "select a from t where |"+w+" = 1")
		for _, near := range []string{w + "s", "x" + w, w + "_", w + "9", "\u00e9" + w} {
			gives(t, "drop "+near, api.Stmt{Kind: 4, Name: strings.ToLower(near)})
		}
	}
	for _, w := range strings.Fields("ok type column columns name value number statement maxbatch or clustering exists if desc order by count ascii bigint") {
		gives(t, "drop "+w, api.Stmt{Kind: 4, Name: w})
	}
}

// P14.3

func TestEnd(t *testing.T) {
	for _, s := range []string{"|", " \n|", "-- so|", "drop|", "drop |", "drop -- v|", "create|", "begin|", "begin batch|", "begin batch delete from t where p = 1;|", "begin batch delete from t where p = 1; apply|",
		"create table t (p text, k int, primary key (p, k)|", "select * from t where p = '\u20ac\u20ac' and|", "select * from t|", "insert into t (p) values (1|", "update t set a = 1|", "delete|", "delete a|"} {
		fails(t, s)
	}
	fails(t, "drop v |w")
	fails(t, "drop v; |;")
	fails(t, "drop v; |drop w")
	fails(t, "|; drop v")
	fails(t, "begin batch delete from t where p = 1; apply batch; |;")
}

func TestTokensThatAreOthers(t *testing.T) {
	for _, s := range []string{"|hop", "|5", "|'drop' v", "|= v", "drop |5", "drop |'v'", "drop |*", "create |t", "create |materialised view v", "create materialized |table v", "create |view v", "|table t",
		"create table t |p text", "create table t (p |blob, primary key (p, k))", "create table t (p |, primary key (p, k))", "create table t (p text |k int)", "create table t (p text |)", "create table t (p text, |)", "create table t (p text, k int, primary |(p, k))",
		"create table t (p text, k int, primary key (p |k))", "create table t (p text, k int, primary key (p|))", "create table t (p text, k int, primary key (p, k|, p))", "create table t (p text, k int, primary key (p, k)|, a int)", "create table t (p text, k int, primary key (p, k)) |with", "create table t (p |primary key, k int)",
		"create materialized view v as select |(a) from t", "create materialized view v as select *|, a from t", "create materialized view v as select * from t where a |= 1", "create materialized view v as select * from t where a is |null", "create materialized view v as select * from t where a is not null |and b",
		"create materialized view v as select * from t where a is not null primary key (a, p|)", "create materialized view v as select * from t where a is not null primary key (a, p, k|, b)",
		"create index |on t (a)", "create index i |t (a)", "create index i on t (a|, b)", "create index i on t |a",
		"insert |t (p) values (1)", "insert into t |values (1)", "insert into t (|) values (1)", "insert into t (p,|) values (1)", "insert into t (p |k) values (1, 2)", "insert into t (p) |(1)", "insert into t (p) values |1", "insert into t (p) values (|p)", "insert into t (p) values (1,|)", "insert into t (p) values (1) |(2)",
		"insert into t (p) values (1) |timestamp 5", "insert into t (p) values (1) using |5", "insert into t (p) values (1) using ttl 5 |and timestamp 5", "insert into t (p) values (1) using timestamp 5 |ttl 5", "insert into t (p) values (1) using timestamp 5 and |timestamp 5", "insert into t (p) values (1) using timestamp |'5'", "insert into t (p) values (1) using timestamp |ttl 5", "insert into t (p) values (1) using ttl |x",
		"update t |a = 1", "update t set |where p = 1 and k = 1", "update t set a |1", "update t set a = 1, |where p = 1 and k = 1", "update t set a = 1 |and b = 1", "update t set a = |= 1", "update t set a = 1 where p = 1|", "update t set a = 1 where p = 1|, k = 1", "update t set a = 1 where p = 1 and k = 1 |and k = 1", "update t set a = 1 |using ttl 5 where p = 1 and k = 1",
		"delete |* from t where p = 1", "delete a, |from t where p = 1", "delete from t using |ttl 5 where p = 1", "delete from t using timestamp 5 |and ttl 5 where p = 1", "delete from t |limit 5", "delete from t where p = 1 and k = 1 |and a = 1", "delete from t where p = 1 |limit 5",
		"select |from t where p = 1", "select a, |from t where p = 1", "select *|, a from t where p = 1", "select a, |* from t where p = 1", "select * |t", "select * from t |limit 5", "select * from t where p = |k", "select * from t where p = 1 |order", "select * from t where p = 1 limit |x", "select * from t where p = 1 limit 1 |limit 1", "select * from t where p = 1 |using ttl 5",
		"begin |delete from t where p = 1; apply batch", "begin batch |apply batch", "begin batch |; apply batch", "begin batch |drop v; apply batch", "begin batch |select * from t where p = 1; apply batch", "begin batch |begin batch delete from t where p = 1; apply batch; apply batch", "begin batch |create index i on t (a); apply batch", "begin batch delete from t where p = 1 |apply batch",
		"begin batch delete from t where p = 1;|; apply batch", "begin batch delete from t where p = 1; apply |;", "begin batch delete from t where p = 1; |batch", "begin batch delete from t where p = 1; |drop v; apply batch",
	} {
		fails(t, s)
	}
	fails(t, "drop -- v\n|=")
	fails(t, "delete from t where p |> 1")
}

func TestColumnsTwice(t *testing.T) {
	fails(t, "create table t (p text, |p text, primary key (p, p))")
	fails(t, "create table t (p text, k int, a int, |k text, primary key (p, k))")
	fails(t, "create table t (p text, k int, |P")
	fails(t, "create materialized view v as select a, b, |a from t where a is not null primary key (a, p, k)")
	fails(t, "insert into t (p, k, |p) values (1, 2, 3)")
	fails(t, "insert into t (p, |P) values (1, 2)")
	fails(t, "update t set a = 1, b = 2, |a = 3 where p = 1 and k = 2")
	fails(t, "update t set a = 1, |a hop")
	fails(t, "delete a, b, |a from t where p = 1 and k = 2")
	fails(t, "select a, |a from t where p = 1")
}

func TestTooManyColumns(t *testing.T) {
	table := func(names string) string {
		return "create table t (" + strings.ReplaceAll(names, ",", " int,") + " text, primary key (a, b))"
	}
	var stmt api.Stmt
	for s, want := range map[string]int{table(letters(10)): 8, "insert into t (" + letters(10) + ") values (" + digits(10) + ")": 10, "select " + letters(8) + " from t where p = 1": 8, "delete " + letters(8) + " from t where p = 1": 8,
		"update t set " + strings.ReplaceAll(letters(8), ",", "=1,") + "=1 where p = 1 and k = 1": 8, "create materialized view v as select " + letters(8) + " from t where a is not null primary key (a, p, k)": 8} {
		var e api.Errno
		stmt, _, e = Parse(s)
		if n := len(stmt.Cols) + len(stmt.Sets) + len(stmt.Table.Cols); n != want || e != api.OK {
			t.Error(s, n, e)
		}
	}
	fails(t, table("a,b,c,d,e,f,g,h,i,j,|k"))
	fails(t, "insert into t ("+letters(10)+",|k) values (1)")
	fails(t, "insert into t ("+letters(10)+",|k,l) values ("+digits(12)+")")
	fails(t, "select "+letters(8)+",|i from t where p = 1")
	fails(t, "delete "+letters(8)+",|i from t where p = 1")
	fails(t, "update t set "+strings.ReplaceAll(letters(8), ",", "=1,")+"=1,|i=1 where p = 1 and k = 1")
	fails(t, "create materialized view v as select "+letters(8)+",|i from t where a is not null primary key (a, p, k)")
}

func TestKeys(t *testing.T) {
	fails(t, "create table t (primary key (|p, k))")
	fails(t, "create table t (p text, k int, primary key (|q, k))")
	fails(t, "create table t (p text, k int, primary key (|q, r))")
	fails(t, "create table t (p text, k int, primary key (p, |q))")
	fails(t, "create table t (p text, k int, primary key (p, |p))")
	fails(t, "create table t (p text, k int, primary key (p, |P) hop")
	fails(t, "create materialized view v as select * from t where a is not null primary key (|p, a, k)")
	fails(t, "create materialized view v as select * from t where a is not null primary key (|b, p, k)")
}

func TestStamps(t *testing.T) {
	for _, front := range []string{"insert into t (p) values (1) using timestamp ", "insert into t (p) values (1) using ttl ", "insert into t (p) values (1) using timestamp 5 and ttl ", "select * from t where p = 1 limit "} {
		for _, wrong := range []string{"0", "-0", "-1", "-5", "-1099511627776", "'5'", "five"} {
			fails(t, front+"|"+wrong)
		}
		for _, right := range []int{1, 2, 1<<40 - 1, 1 << 40} {
			x, _, e := Parse(front + strconv.Itoa(right))
			if e != api.OK || max(x.TTL, x.Limit) != right && (x.Stamp != right || x.TTL != 0) {
				t.Error(front, right, x, e)
			}
		}
		fails(t, front+"|1099511627777") // lex's error
	}
	fails(t, "delete from t using timestamp |0 where p = 1")
	fails(t, "update t using timestamp |0 and ttl 0 set a = 1 where p = 1 and k = 1")
	fails(t, "update t using timestamp 1 and ttl |0 set a = 1 where p = 1 and k = 1")
}

func TestCountOfValues(t *testing.T) {
	fails(t, "insert into t (p, k) values (1|)")
	fails(t, "insert into t (p) values (1, 2|)")
	fails(t, "insert into t (p) values (1, 2|) hop")
	fails(t, "insert into t (p) values (1, 2 |3)")
	fails(t, "insert into t (p) values ("+strings.Repeat("1,", 400)+"1|)")
	fails(t, "begin batch insert into t (p) values (1); insert into t (p, k) values (1|); apply batch")
}

func TestCountOfBatch(t *testing.T) {
	eight := "begin batch " + strings.Repeat("delete from t where p = 1; ", 8)
	fails(t, eight+"|delete from t where p = 1; apply batch")
	fails(t, eight+"|insert")
	fails(t, eight+"|drop v; apply batch")
	fails(t, eight+"apply |delete")
}

func TestFirstOfTwo(t *testing.T) {
	fails(t, "drop v w |!") // lex's first, wherever it is
	fails(t, "select a, a from t where p = |'x")
	fails(t, "select a, |a hop")
	fails(t, "insert into t (p, |p) values (1)")
	fails(t, "insert into t (p) values (1, |x, 3)")
	fails(t, "create table t (p text, |p blob")
	fails(t, "create table t (p |blob, p text")
	fails(t, "create table t (p text, k int, primary key (|q hop")
	fails(t, "begin batch insert into t (p, k) values (1|); delete a, a from t; apply batch")
}

func TestPlacesAreCodePoints(t *testing.T) {
	fails(t, "insert into \u20ac\u20ac (\U0001f600) values ('\u00e9') |\u20ac")
	fails(t, "-- \xff\xfe\ndrop v |5")
	fails(t, "-- \u20ac\xff|")
	fails(t, "drop \u20ac -- \U0001f600\n|drop")
}

func TestTooLongToRead(t *testing.T) {
	for s, want := range map[string]api.Errno{strings.Repeat(" ", 1001): api.ErrBig, "drop v" + strings.Repeat(" ", 995): api.ErrBig, "drop v" + strings.Repeat(" ", 994): api.OK, strings.Repeat("=", 1001): api.ErrBig} {
		if x, at, e := Parse(s); at != 0 || e != want || (x.Kind == 4) != (e == api.OK) {
			t.Error(len(s), x, at, e)
		}
	}
	fails(t, strings.Repeat(" ", 1000)+"|")
	fails(t, "drop |"+strings.Repeat("v", 101))
}

// TestTooLongToPrint has texts of each kind that may be printed in so many bytes, with just as many, and with one more.
func TestTooLongToPrint(t *testing.T) {
	pad := func(s string, n int) string { // letters in place of each sign #, at most 98
		for strings.Contains(s, "#") {
			some := min(n, 98)
			s = strings.Replace(s, "#", strings.Repeat("x", some), 1)
			n -= some
		}
		return s
	}
	for _, s := range []string{
		"create table t#(a int,b int,cc# text,dd# text,ee# text,ff# text,gg# text,hh# text,ii# text,jj# text,primary key(a,b))",
		"create materialized view v as select a#,b#,c#,d#,e#,f#,g#,h# from t# where n is not null primary key(n,p#,q#);",
		"insert into t#(p,k,a,b,c,d,e,f,g,h)values('#','#','#','#','#','#','#','#','#','#')using timestamp 5",
		"insert into t(p#,k,a,b,c,d,e,f,g,h)values('''#','#','#','#','#','#','#','#','#',-00005);",
		"update t# using ttl 5 set a='#',b='#',c='#',d='#',e='#',f='#',g='#',h='#'where p='#'and k='#'",
		"delete a#,b#,c#,d#,e#,f#,g#,h# from t# where p='#'and k='#';",
		"select a#,b#,c#,d#,e#,f#,g#,h# from t# where p#='#'and k='#'limit 5",
		"begin batch delete from t# where p#=5;insert into t#(p)values('#');update t# set p='#',k='#'where p='#'and k='#';insert into t#(k)values(1);delete p# from t where p='#'and k='#';delete from t# where k=1;apply batch",
	} {
		short, _, e := Parse(pad(s, 0))
		if e != api.OK {
			t.Error(s, e)
			continue
		}
		room := 1000 - len(printed(short))
		for n := room - 3; n <= room+3; n++ {
			x, at, e := Parse(pad(s, n))
			switch {
			case n <= room && (e != api.OK || at != 0 || len(printed(x)) != 1000-room+n || !Check(x)):
				t.Error(s, n-room, at, e)
			case n > room && (e != api.ErrBig || at != 0 || !alike(x, api.Stmt{})):
				t.Error(s, n-room, at, e)
			}
		}
	}
}

// P14.4

func TestCheckOfSome(t *testing.T) {
	where := []api.Pair{aNumber("p", 1)}
	if Check(api.Stmt{}) || Check(api.Stmt{Kind: 4}) || Check(api.Stmt{Kind: 10, Name: "v"}) || Check(api.Stmt{Kind: -4, Name: "v"}) {
		t.Error("a kind that is none")
	}
	for _, name := range []string{"", " ", "V", "v ", " v", "v;", "v -- so", "v w", "5", "'v'", "drop", "\xff", "\u00e9\xff", "v\x00", strings.Repeat("v", 101)} {
		if Check(api.Stmt{Kind: 4, Name: name}) || Check(api.Stmt{Kind: 8, Of: name, Where: where}) || Check(api.Stmt{Kind: 8, Of: "t", Cols: []string{name}, Where: where}) || Check(api.Stmt{Kind: 8, Of: "t", Where: []api.Pair{aNumber(name, 1)}}) {
			t.Errorf("%q", name)
		}
	}
	for _, name := range []string{"v", "_", "v9", "\u00c9", strings.Repeat("v", 100)} {
		if !Check(api.Stmt{Kind: 4, Name: name}) || !Check(api.Stmt{Kind: 8, Of: name, Cols: []string{name}, Where: []api.Pair{aText(name, name)}}) {
			t.Errorf("%q", name)
		}
	}
	select5 := func(term api.Term) api.Stmt {
		return api.Stmt{Kind: 8, Of: "t", Where: []api.Pair{{Name: "p", Term: term}}, Limit: 5}
	}
	for _, term := range []api.Term{{}, {Type: 0, S: "x"}, {Type: 0, N: 1}, {Type: 3, S: "x"}, {Type: 1, S: "x", N: 1}, {Type: 2, S: "x", N: 1}, {Type: 1, S: "\xff"}, {Type: 1, S: strings.Repeat("x", 101)}, {Type: 2, N: 1<<40 + 1}, {Type: 2, N: -1<<40 - 1}} {
		if Check(select5(term)) {
			t.Errorf("%+v", term)
		}
	}
	for _, term := range []api.Term{{Type: 1}, {Type: 1, S: "it's"}, {Type: 1, S: strings.Repeat("'", 100)}, {Type: 2}, {Type: 2, N: -5}, {Type: 2, N: 1 << 40}, {Type: 2, N: -1 << 40}} {
		if !Check(select5(term)) {
			t.Errorf("%+v", term)
		}
	}
}

// R3

// TestAnswersAreNewMemory fills each list of an answer, spare room too, and looks whether another one turns, or a later answer.
func TestAnswersAreNewMemory(t *testing.T) {
	for _, sample := range samples {
		x, _, _ := Parse(sample)
		y, _, _ := Parse(sample)
		want := bare(y)
		var spoil func(x *api.Stmt)
		spoil = func(x *api.Stmt) {
			was := bare(*x)
			fill(x.Cols, "spoilt")
			x.Cols = nil
			was.Cols = nil
			unturned(t, sample, *x, was)
			fill(x.Sets, aText("spoilt", "so"))
			x.Sets, was.Sets = nil, nil
			unturned(t, sample, *x, was)
			fill(x.Where, aText("spoilt", "so"))
			x.Where, was.Where = nil, nil
			unturned(t, sample, *x, was)
			fill(x.Table.Cols, api.Column{Name: "spoilt"})
			x.Table.Cols, was.Table.Cols = nil, nil
			unturned(t, sample, *x, was)
			for i := range x.Parts {
				spoil(&x.Parts[i])
				for k := i + 1; k < len(x.Parts); k++ {
					unturned(t, sample, x.Parts[k], was.Parts[k])
				}
			}
		}
		spoil(&x)
		unturned(t, sample, y, want)
	}
}

// fill has all of a list's room filled with one thing.
func fill[T any](list []T, with T) {
	list = list[:cap(list)]
	for i := range list {
		list[i] = with
	}
}

func unturned(t *testing.T, sample string, x, want api.Stmt) {
	t.Helper()
	if !alike(x, want) {
		t.Errorf("%q: %+v, not %+v any more", sample, x, want)
	}
}
