package schema

import (
	"reflect"
	"strings"
	"testing"

	"clerestory/api"
)

// maker makes random statements, by numbers of its own.
type maker struct{ state uint64 }

func (m *maker) pick(n int) int {
	m.state = m.state*6364136223846793005 + 1442695040888963407
	return int(m.state>>33) % n
}

func (m *maker) seldom(n int) bool { return m.pick(n) == 0 }

func (m *maker) of(list string) string {
	all := strings.Fields(list)
	return all[m.pick(len(all))]
}

// name is one of a few, so that it is often there.
func (m *maker) name() string {
	if m.seldom(40) {
		return long(79 + m.pick(4))
	}
	return m.of("a b t t u w \u00e9 v x_")
}

func (m *maker) column() string { return m.of("a b c d") }

// some are columns, each once.
func (m *maker) some(all string, most int) []string {
	list := strings.Fields(all)
	for i := range list {
		j := i + m.pick(len(list)-i)
		list[i], list[j] = list[j], list[i]
	}
	return list[:m.pick(most+1)]
}

// table has the columns p and k, or k and p, for its key, mostly.
func (m *maker) table() api.Stmt {
	name := m.name()
	x := api.Table{Name: name, Part: anInt("p"), Clus: aText("k")}
	if m.seldom(4) {
		x.Part, x.Clus = x.Clus, x.Part
	}
	if m.seldom(8) {
		x.Part = aText("q")
	}
	for _, c := range m.some("a b c d", 4) {
		x.Cols = append(x.Cols, api.Column{Name: c, Type: 1 + m.pick(2)})
	}
	return api.Stmt{Kind: api.CreateTable, Name: name, Table: x}
}

func (m *maker) view() api.Stmt {
	x := api.Stmt{Kind: api.CreateView, Name: m.name(), Of: m.name(), On: m.column(), Where: []api.Pair{{Name: "p"}, {Name: "k"}}}
	if m.seldom(3) {
		x.Cols = m.some("a b c d", 4)
	}
	if m.seldom(15) {
		x.Cols = append(x.Cols, m.of("p k q"))
	}
	if m.seldom(8) {
		x.Where = []api.Pair{{Name: m.of("p k q a")}, {Name: m.of("p k q a")}}
	}
	if m.seldom(20) {
		x.On = m.of("p k q")
	}
	return x
}

// stmt is a statement, now and then one that may not be.
func (m *maker) stmt() api.Stmt {
	x := api.Stmt{Kind: api.Drop, Name: m.name()}
	switch m.pick(9) {
	case 0, 1:
		x = m.table()
	case 2, 3, 4:
		x = m.view()
	case 5, 6:
		x = api.Stmt{Kind: api.CreateIndex, Name: m.name(), Of: m.name(), On: m.column()}
		if m.seldom(20) {
			x.On = m.of("p k q")
		}
	}
	switch m.pick(200) {
	case 0:
		x.Kind = m.pick(11)
	case 1:
		x.Name = strings.ToUpper(x.Name)
	case 2:
		x.Stamp = 1
	}
	return x
}

// start is an empty schema: how many numbers are left differs.
func (m *maker) start() api.Schema {
	return api.Schema{Last: []int{0, 0, 1 << 20, api.MaxStamp - 3, api.MaxStamp - 1}[m.pick(5)]}
}

// P16.2, P16.4: lives of random statements, each held against the second reading; whatever comes may be.
func TestRandomLives(t *testing.T) {
	m := &maker{state: 16}
	counts := map[[2]int]int{}
	for range 700 {
		s := m.start()
		for range 30 {
			x := m.stmt()
			want, e := applied(s, x)
			comes(t, s, x, want, e)
			counts[[2]int{x.Kind, int(e)}]++
			if e == api.OK {
				s, _ = Apply(s, x)
			}
		}
	}
	for kind := api.CreateTable; kind <= api.Drop; kind++ {
		for e := api.OK; e <= api.ErrType; e++ {
			never := e == api.ErrText || kind == api.CreateTable && e == api.ErrType || kind == api.Drop && e == api.ErrBig
			if n := counts[[2]int{kind, int(e)}]; n < 15 && !never || n > 0 && never {
				t.Error(kind, e, n)
			}
		}
	}
}

// P16.2: what Apply makes of schemas that are turned in one thing, of which most may not be.
func TestApplyToTurned(t *testing.T) {
	m := &maker{state: 61}
	s := sample()
	counts := map[api.Errno]int{}
	turns(reflect.ValueOf(&s).Elem(), func() {
		for range 4 {
			x := m.stmt()
			want, e := applied(s, x)
			comes(t, s, x, want, e)
			counts[e]++
		}
	})
	if counts[api.OK] < 60 || counts[api.ErrArg] < 2000 || counts[api.ErrName] < 300 {
		t.Error(counts)
	}
}

// R4: what an answer is turned to afterwards turns nothing in what comes of the same again.
func TestApplyAgain(t *testing.T) {
	s, x := sample(), stmt(t, "create materialized view x as select a, b from t where c is not null primary key (c, p, k)")
	first, _ := Apply(s, x)
	want := roomy(first)
	for i := range first.Tables {
		clear(first.Tables[i].Cols[:cap(first.Tables[i].Cols)])
	}
	for i := range first.Views {
		clear(first.Views[i].Cols[:cap(first.Views[i].Cols)])
	}
	clear(first.Tables[:cap(first.Tables)])
	clear(first.Views[:cap(first.Views)])
	if again, e := Apply(s, x); !alike(again, want) || e != api.OK {
		t.Error(again, e)
	}
}
