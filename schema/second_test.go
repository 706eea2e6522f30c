package schema

import (
	"maps"
	"slices"
	"strings"
	"unicode/utf8"

	"clerestory/api"
	"clerestory/parse"
)

// The grammar's words, as parse's chapter has them.
var great = strings.Fields("CREATE TABLE PRIMARY KEY MATERIALIZED VIEW AS SELECT FROM WHERE IS NOT NULL INDEX ON DROP INSERT INTO VALUES USING UPDATE SET AND DELETE TIMESTAMP LIMIT BEGIN BATCH APPLY TEXT INT TTL")

// awkward are texts, some of them names.
func awkward() []string {
	all := []string{"", "a", "b", "c", "d", "p", "k", "t", "u", "v", "w", "i", "T", "table", "ttl", "ttls", "key", "ok", "_", "9", "t9", "t_1", "a b", " t", "t;", "t--", "*", "'t'", "\u00e9", "\u00c9", "\xff", "t\xff", "\ufffd"}
	for _, n := range []int{79, 80, 81, 100, 101} {
		all = append(all, strings.Repeat("n", n), "\u00e9"+strings.Repeat("n", n-2))
	}
	return append(all, strings.Repeat("n", 1001))
}

// isWord tells whether a text may be a name, letter by letter.
func isWord(s string) bool {
	if len(s) < 1 || len(s) > 100 || !utf8.ValidString(s) || slices.Contains(great, strings.ToUpper(s)) {
		return false
	}
	for i, r := range []rune(s) {
		switch {
		case r >= 'a' && r <= 'z', r == '_', r >= 0x80, i > 0 && r >= '0' && r <= '9':
		default:
			return false
		}
	}
	return true
}

// mayBe is a second reading of what Check is: each thing looked up in maps of those ahead of it.
func mayBe(s api.Schema) bool {
	ids, names := map[int]bool{}, map[string]bool{}
	ok := s.Last >= 0 && s.Last <= 1<<40 && len(s.Tables) <= 4 && len(s.Views) <= 4
	last := ""
	enter := func(name string, id int) {
		ok = ok && isWord(name) && len(name) <= 80 && name > last && !names[name] && id > 0 && id <= s.Last && !ids[id]
		last = name
		names[name], ids[id] = true, true
	}
	tables := map[string]api.Table{}
	for _, t := range s.Tables {
		enter(t.Name, t.ID)
		ok = ok && mayHave(t)
		tables[t.Name] = t
	}
	last = ""
	for _, v := range s.Views {
		enter(v.Name, v.ID)
		t, there := tables[v.Table]
		var want []string
		on := false
		for _, c := range t.Cols {
			on = on || c.Name == v.On
			if c.Name != v.On && slices.Contains(v.Cols, c.Name) {
				want = append(want, c.Name)
			}
		}
		ok = ok && there && on && slices.Equal(v.Cols, want)
	}
	return ok
}

// mayHave tells whether a table's columns may be.
func mayHave(t api.Table) bool {
	names := map[string]bool{}
	for _, c := range append([]api.Column{t.Part, t.Clus}, t.Cols...) {
		if !isWord(c.Name) || names[c.Name] || c.Type != 1 && c.Type != 2 {
			return false
		}
		names[c.Name] = true
	}
	return len(names) <= 10
}

// paper is a second reading of a schema: what there is, by name.
type paper struct {
	tables map[string]api.Table
	views  map[string]api.View
}

func paperOf(s api.Schema) paper {
	p := paper{map[string]api.Table{}, map[string]api.View{}}
	for _, t := range s.Tables {
		p.tables[t.Name] = t
	}
	for _, v := range s.Views {
		p.views[v.Name] = v
	}
	return p
}

func (p paper) schema(last int) api.Schema {
	s := api.Schema{Last: last}
	for _, name := range slices.Sorted(maps.Keys(p.tables)) {
		s.Tables = append(s.Tables, p.tables[name])
	}
	for _, name := range slices.Sorted(maps.Keys(p.views)) {
		s.Views = append(s.Views, p.views[name])
	}
	return s
}

func (p paper) has(name string) bool {
	_, table := p.tables[name]
	_, view := p.views[name]
	return table || view
}

// applied is a second reading of what Apply is: whatever is wrong is looked for, and the first of it told.
func applied(s api.Schema, x api.Stmt) (api.Schema, api.Errno) {
	if !mayBe(s) || !parse.Check(x) || x.Kind > 4 {
		return api.Schema{}, 1
	}
	p := paperOf(s)
	wrong := map[api.Errno]bool{}
	last := s.Last
	switch x.Kind {
	case 1:
		last++
		t := x.Table
		t.ID = last
		wrong[4] = p.has(x.Name)
		wrong[2] = len(p.tables) >= 4
		p.tables[x.Name] = t
	case 2, 3:
		last++
		wrong[4], wrong[5] = p.wrongView(x)
		wrong[2] = len(p.views) >= 4
		p.views[x.Name] = api.View{Name: x.Name, ID: last, Table: x.Of, On: x.On, Cols: p.shown(x)}
	case 4:
		wrong[4] = !p.has(x.Name)
		for _, v := range p.views {
			wrong[5] = wrong[5] || v.Table == x.Name
		}
		delete(p.tables, x.Name)
		delete(p.views, x.Name)
	}
	wrong[2] = wrong[2] || x.Kind != 4 && (len(x.Name) > 80 || last > 1<<40)
	for _, e := range []api.Errno{4, 5, 2} {
		if wrong[e] {
			return api.Schema{}, e
		}
	}
	return p.schema(last), 0
}

// wrongView tells whether a name of a view is not right, and whether a type is not.
func (p paper) wrongView(x api.Stmt) (name, kind bool) {
	t, there := p.tables[x.Of]
	key := []string{t.Part.Name, t.Clus.Name}
	var cols []string
	for _, c := range t.Cols {
		cols = append(cols, c.Name)
	}
	name = p.has(x.Name) || !there || !slices.Contains(append(cols, key...), x.On)
	kind = !slices.Contains(cols, x.On)
	if x.Kind == 2 {
		kind = kind || x.Where[0].Name != key[0] || x.Where[1].Name != key[1]
	}
	for _, c := range x.Cols {
		name = name || !slices.Contains(append(cols, key...), c)
		kind = kind || c == x.On || slices.Contains(key, c)
	}
	return name, kind
}

// shown are the Cols of a view.
func (p paper) shown(x api.Stmt) []string {
	var cols []string
	for _, c := range p.tables[x.Of].Cols {
		if x.Kind == 2 && c.Name != x.On && (len(x.Cols) == 0 || slices.Contains(x.Cols, c.Name)) {
			cols = append(cols, c.Name)
		}
	}
	return cols
}
