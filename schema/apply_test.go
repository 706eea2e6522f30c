package schema

import (
	"reflect"
	"strings"
	"testing"

	"clerestory/api"
	"clerestory/parse"
)

// stmt is the statement that a text is.
func stmt(t *testing.T, text string) api.Stmt {
	t.Helper()
	x, at, e := parse.Parse(text)
	if e != api.OK {
		t.Fatalf("Parse(%q): %d, %d", text, at, e)
	}
	return x
}

// comes tells of an answer of Apply that is not this one, or not that of the second reading, or that shares memory, or that turned what was handed in.
func comes(t *testing.T, s api.Schema, x api.Stmt, want api.Schema, e api.Errno) {
	t.Helper()
	s, x = roomy(s), roomy(x)
	wasS, wasX := whole(s), whole(x)
	got, err := Apply(s, x)
	if !alike(got, want) || err != e {
		t.Errorf("Apply(%+v, %+v): %+v, %d, want %+v, %d", s, x, got, err, want, e)
	}
	if second, e2 := applied(s, x); !alike(second, want) || e2 != e {
		t.Errorf("the second reading of %+v, %+v: %+v, %d, want %+v, %d", s, x, second, e2, want, e)
	}
	if e == api.OK && !Check(got) || e != api.OK && !reflect.DeepEqual(bare(got), api.Schema{}) {
		t.Errorf("Apply(%+v, %+v): %+v may not be", s, x, got)
	}
	if shares(got, s, x) || !reflect.DeepEqual(whole(s), wasS) || !reflect.DeepEqual(whole(x), wasX) {
		t.Errorf("Apply(%+v, %+v): what was handed in is shared, or turned", s, x)
	}
}

// bare has nil for each list that is empty.
func bare(s api.Schema) api.Schema {
	if len(s.Tables) == 0 {
		s.Tables = nil
	}
	if len(s.Views) == 0 {
		s.Views = nil
	}
	return s
}

// makes tells of a text that does not make this of s.
func makes(t *testing.T, s api.Schema, text string, want api.Schema) {
	t.Helper()
	comes(t, s, stmt(t, text), want, api.OK)
}

// refused tells of a text that is not refused so.
func refused(t *testing.T, s api.Schema, text string, e api.Errno) {
	t.Helper()
	comes(t, s, stmt(t, text), api.Schema{}, e)
}

// long is a name of so many bytes.
func long(n int) string { return strings.Repeat("n", n) }

const key = " (p int, k int, primary key (p, k))"

// P16.2

func TestCreateTable(t *testing.T) {
	first := api.Table{Name: "t", ID: 1, Part: anInt("k"), Clus: aText("p"), Cols: []api.Column{anInt("b"), aText("a")}}
	makes(t, api.Schema{}, "create table t (p text, b int, a text, k int, primary key (k, p))", api.Schema{Last: 1, Tables: []api.Table{first}})
	first.ID = 10
	makes(t, api.Schema{Last: 9}, "create table t (p text, b int, a text, k int, primary key (k, p))", api.Schema{Last: 10, Tables: []api.Table{first}})
	for name, place := range map[string]int{"a": 0, "s": 0, "t_": 1, "tt": 1, "x": 2, "u9": 2, "\u00e9": 2, long(80): 0} {
		want := sample()
		want.Last = 7
		more := api.Table{Name: name, ID: 7, Part: anInt("p"), Clus: anInt("k")}
		want.Tables = append(append(append([]api.Table{}, want.Tables[:place]...), more), want.Tables[place:]...)
		makes(t, sample(), "create table "+name+key, want)
	}
}

func TestCreateTableThatIsRefused(t *testing.T) {
	for _, name := range []string{"t", "u", "v", "w", "i"} {
		refused(t, sample(), "create table "+name+key, api.ErrName)
	}
	refused(t, sample(), "create table "+long(81)+key, api.ErrBig)
	refused(t, sample(), "create table \u00e9"+long(79)+key, api.ErrBig)
	s := full()
	refused(t, s, "create table x"+key, api.ErrBig)
	refused(t, s, "create table "+s.Tables[2].Name+key, api.ErrName)
	refused(t, s, "create table "+s.Views[2].Name+key, api.ErrName)
	s.Last++
	refused(t, s, "create table "+s.Tables[2].Name+key, api.ErrArg)
}

func TestLast(t *testing.T) {
	s := sample()
	s.Last = api.MaxStamp
	for _, text := range []string{"create table x" + key, "create materialized view x as select * from t where c is not null primary key (c, p, k)", "create index x on t (c)"} {
		refused(t, s, text, api.ErrBig)
	}
	want := sample()
	want.Last, want.Views = api.MaxStamp, want.Views[:2]
	makes(t, s, "drop w", want)
	s.Last--
	want = sample()
	want.Last = api.MaxStamp
	want.Tables = append(want.Tables, api.Table{Name: "x", ID: api.MaxStamp, Part: anInt("p"), Clus: anInt("k")})
	makes(t, s, "create table x"+key, want)
	want = sample()
	want.Last = api.MaxStamp
	want.Views = append(want.Views, api.View{Name: "x", ID: api.MaxStamp, Table: "t", On: "c"})
	makes(t, s, "create index x on t (c)", want)
}

// aView is the sample with a view more, at a place.
func aView(place int, v api.View) api.Schema {
	s := sample()
	s.Last = 7
	v.ID = 7
	s.Views = append(append(append([]api.View{}, s.Views[:place]...), v), s.Views[place:]...)
	return s
}

func TestCreateView(t *testing.T) {
	makes(t, sample(), "create materialized view x as select * from t where b is not null primary key (b, p, k)", aView(3, api.View{Name: "x", Table: "t", On: "b", Cols: []string{"c", "a"}}))
	makes(t, sample(), "create materialized view a as select * from t where c is not null primary key (c, p, k)", aView(0, api.View{Name: "a", Table: "t", On: "c", Cols: []string{"b", "a"}}))
	makes(t, sample(), "create materialized view j as select * from t where a is not null primary key (a, p, k)", aView(1, api.View{Name: "j", Table: "t", On: "a", Cols: []string{"b", "c"}}))
	makes(t, sample(), "create materialized view vv as select * from u where b is not null primary key (b, a, c)", aView(2, api.View{Name: "vv", Table: "u", On: "b"}))
	makes(t, sample(), "create materialized view b as select a, b from t where c is not null primary key (c, p, k)", aView(0, api.View{Name: "b", Table: "t", On: "c", Cols: []string{"b", "a"}}))
	makes(t, sample(), "create materialized view b as select a, c from t where b is not null primary key (b, p, k)", aView(0, api.View{Name: "b", Table: "t", On: "b", Cols: []string{"c", "a"}}))
	makes(t, sample(), "create materialized view b as select a from t where b is not null primary key (b, p, k)", aView(0, api.View{Name: "b", Table: "t", On: "b", Cols: []string{"a"}}))
	makes(t, sample(), "create materialized view "+long(80)+" as select c from t where b is not null primary key (b, p, k)", aView(1, api.View{Name: long(80), Table: "t", On: "b", Cols: []string{"c"}}))
}

func TestCreateViewThatIsRefused(t *testing.T) {
	for _, x := range []struct {
		front, back string
		e           api.Errno
	}{
		{"t as select *", "t where b is not null primary key (b, p, k)", api.ErrName},
		{"u as select *", "t where b is not null primary key (b, p, k)", api.ErrName},
		{"v as select *", "t where b is not null primary key (b, p, k)", api.ErrName},
		{"w as select *", "t where b is not null primary key (b, p, k)", api.ErrName},
		{"x as select *", "x where b is not null primary key (b, p, k)", api.ErrName},
		{"x as select *", "y where b is not null primary key (b, p, k)", api.ErrName},
		{"x as select *", "v where b is not null primary key (b, p, k)", api.ErrName},
		{"x as select *", "t where d is not null primary key (d, p, k)", api.ErrName},
		{"x as select *", "u where p is not null primary key (p, a, c)", api.ErrName},
		{"x as select d", "t where b is not null primary key (b, p, k)", api.ErrName},
		{"x as select c, d", "t where b is not null primary key (b, p, k)", api.ErrName},
		{"x as select a", "x where b is not null primary key (b, p, k)", api.ErrName},

		{"x as select *", "t where p is not null primary key (p, p, k)", api.ErrType},
		{"x as select *", "t where k is not null primary key (k, p, k)", api.ErrType},
		{"x as select *", "t where b is not null primary key (b, k, p)", api.ErrType},
		{"x as select *", "t where b is not null primary key (b, p, p)", api.ErrType},
		{"x as select *", "t where b is not null primary key (b, k, k)", api.ErrType},
		{"x as select *", "t where b is not null primary key (b, p, c)", api.ErrType},
		{"x as select *", "t where b is not null primary key (b, c, k)", api.ErrType},
		{"x as select *", "t where b is not null primary key (b, b, k)", api.ErrType},
		{"x as select *", "t where b is not null primary key (b, d, k)", api.ErrType}, // that there is none is no name's fault here
		{"x as select *", "t where b is not null primary key (b, p, d)", api.ErrType},
		{"x as select b", "t where b is not null primary key (b, p, k)", api.ErrType},
		{"x as select a, b, c", "t where b is not null primary key (b, p, k)", api.ErrType},
		{"x as select p", "t where b is not null primary key (b, p, k)", api.ErrType},
		{"x as select a, k", "t where b is not null primary key (b, p, k)", api.ErrType},
		{"x as select b, p, k, a, c", "t where b is not null primary key (b, p, k)", api.ErrType},

		// what is named first is told
		{"t as select b", "t where b is not null primary key (b, k, p)", api.ErrName},
		{"x as select b, d", "t where b is not null primary key (b, k, p)", api.ErrName},
		{"x as select d", "t where p is not null primary key (p, p, k)", api.ErrName},
		{"x as select d, p", "t where b is not null primary key (b, p, k)", api.ErrName},
		{long(81) + " as select b", "t where b is not null primary key (b, p, k)", api.ErrType},
		{long(81) + " as select *", "t where b is not null primary key (b, k, p)", api.ErrType},
		{long(81) + " as select *", "t where p is not null primary key (p, p, k)", api.ErrType},
		{long(81) + " as select *", "x where b is not null primary key (b, p, k)", api.ErrName},
		{long(81) + " as select d", "t where b is not null primary key (b, p, k)", api.ErrName},
		{long(81) + " as select *", "t where b is not null primary key (b, p, k)", api.ErrBig},
	} {
		refused(t, sample(), "create materialized view "+x.front+" from "+x.back, x.e)
	}
}

func TestCreateIndex(t *testing.T) {
	makes(t, sample(), "create index x on t (b)", aView(3, api.View{Name: "x", Table: "t", On: "b"}))
	makes(t, sample(), "create index a on t (a)", aView(0, api.View{Name: "a", Table: "t", On: "a"}))
	makes(t, sample(), "create index ii on u (b)", aView(1, api.View{Name: "ii", Table: "u", On: "b"}))
	makes(t, sample(), "create index "+long(80)+" on u (b)", aView(1, api.View{Name: long(80), Table: "u", On: "b"}))
	for text, e := range map[string]api.Errno{
		"t on t (b)": api.ErrName, "i on t (b)": api.ErrName, "v on t (b)": api.ErrName, "x on x (b)": api.ErrName, "x on y (b)": api.ErrName, "x on w (b)": api.ErrName, "x on t (d)": api.ErrName, "x on u (p)": api.ErrName,
		"x on t (p)": api.ErrType, "x on t (k)": api.ErrType, "x on u (a)": api.ErrType, "x on u (c)": api.ErrType,
		"t on t (p)": api.ErrName, long(81) + " on t (p)": api.ErrType, long(81) + " on t (d)": api.ErrName, long(81) + " on t (b)": api.ErrBig,
	} {
		refused(t, sample(), "create index "+text, e)
	}
}

func TestFiveViews(t *testing.T) {
	s := aView(3, api.View{Name: "x", Table: "t", On: "b"})
	view := " as select * from t where b is not null primary key (b, p, k)"
	refused(t, s, "create materialized view y"+view, api.ErrBig)
	refused(t, s, "create materialized view x"+view, api.ErrName)
	refused(t, s, "create materialized view y"+strings.Replace(view, "*", "b", 1), api.ErrType)
	refused(t, s, "create index y on t (b)", api.ErrBig)
	refused(t, s, "create index y on t (p)", api.ErrType)
	refused(t, s, "create index y on t (d)", api.ErrName)
	want := roomy(s)
	want.Last = 8
	want.Tables = append(want.Tables, api.Table{Name: "y", ID: 8, Part: anInt("p"), Clus: anInt("k")})
	makes(t, s, "create table y"+key, want)
}

func TestDrop(t *testing.T) {
	for i, name := range []string{"i", "v", "w"} {
		want := sample()
		want.Views = append(want.Views[:i], want.Views[i+1:]...)
		makes(t, sample(), "drop "+name, want)
	}
	want := sample()
	want.Tables, want.Views = want.Tables[:1], want.Views[:2]
	s := sample()
	s.Views = s.Views[:2]
	makes(t, s, "drop u", want)
	refused(t, s, "drop t", api.ErrType)
	refused(t, s, "drop w", api.ErrName)
	refused(t, sample(), "drop u", api.ErrType)
	refused(t, sample(), "drop x", api.ErrName)
	refused(t, sample(), "drop b", api.ErrName)
	refused(t, sample(), "drop "+long(100), api.ErrName)
	refused(t, api.Schema{}, "drop t", api.ErrName)
	one := api.Schema{Last: 5, Tables: []api.Table{{Name: "t", ID: 2, Part: aText("p"), Clus: aText("k")}}}
	makes(t, one, "drop t", api.Schema{Last: 5})
}

func TestOtherKinds(t *testing.T) {
	for _, text := range []string{"insert into t (p, k) values ('x', 1)", "update t set b = 1 where p = 'x' and k = 1", "delete from t where p = 'x'", "select * from t where p = 'x'", "begin batch delete from t where p = 'x'; apply batch"} {
		refused(t, sample(), text, api.ErrArg)
		refused(t, api.Schema{}, text, api.ErrArg)
	}
}

func TestArguments(t *testing.T) {
	for what, spoil := range spoilt() {
		s := sample()
		spoil(&s)
		for _, text := range []string{"create table x" + key, "create index x on t (b)", "drop w", "drop zz", "create table t" + key, "drop t"} {
			if got, e := Apply(s, stmt(t, text)); !alike(got, api.Schema{}) || e != api.ErrArg {
				t.Error(what, text, got, e)
			}
		}
	}
	table := stmt(t, "create table x"+key)
	for i, x := range []api.Stmt{{}, {Kind: api.Drop}, {Kind: api.Drop, Name: "W"}, {Kind: api.Drop, Name: "drop"}, {Kind: api.Drop, Name: "w", Of: "t"}, {Kind: 10, Name: "w"}, {Kind: -1}, {Kind: api.CreateTable, Name: "x"}, {Kind: api.CreateIndex, Name: "x", Of: "t"}, {Kind: api.CreateView, Name: "x", Of: "t", On: "b"},
		{Kind: api.CreateView, Name: "x", Of: "t", On: "b", Where: []api.Pair{{Name: "p"}}}, {Kind: api.CreateView, Name: "x", Of: "t", On: "b", Where: []api.Pair{{Name: "p"}, {Name: "k"}, {Name: "k"}}}, {Kind: api.CreateView, Name: "x", Of: "t", On: "b", Cols: []string{"a", "a"}, Where: []api.Pair{{Name: "p"}, {Name: "k"}}}} {
		comes(t, sample(), x, api.Schema{}, api.ErrArg)
		comes(t, api.Schema{}, x, api.Schema{}, api.ErrArg)
		comes(t, api.Schema{Last: -1}, x, api.Schema{}, api.ErrArg)
		if parse.Check(x) {
			t.Error(i)
		}
	}
	table.Table.ID = 7
	comes(t, sample(), table, api.Schema{}, api.ErrArg)
}

// The document's example.
func TestExample(t *testing.T) {
	s, e := Apply(api.Schema{}, stmt(t, "create table t (p text, k int, a int, primary key (p, k))"))
	if e != api.OK {
		t.Fatal(e)
	}
	s, e = Apply(s, stmt(t, "create index v on t (a)"))
	if e != api.OK {
		t.Fatal(e)
	}
	refused(t, s, "drop t", api.ErrType)
}
