package schema

import (
	"reflect"
	"strconv"
	"strings"
	"testing"

	"clerestory/api"
)

func aText(name string) api.Column { return api.Column{Name: name, Type: api.Text} }

func anInt(name string) api.Column { return api.Column{Name: name, Type: api.Int} }

// sample is a schema with two tables and three views.
func sample() api.Schema {
	return api.Schema{
		Last: 6,
		Tables: []api.Table{
			{Name: "t", ID: 1, Part: aText("p"), Clus: anInt("k"), Cols: []api.Column{anInt("b"), aText("c"), aText("a")}},
			{Name: "u", ID: 5, Part: anInt("a"), Clus: anInt("c"), Cols: []api.Column{anInt("b")}},
		},
		Views: []api.View{
			{Name: "i", ID: 3, Table: "t", On: "b"},
			{Name: "v", ID: 6, Table: "t", On: "c", Cols: []string{"b", "a"}},
			{Name: "w", ID: 2, Table: "u", On: "b"},
		},
	}
}

// full is a schema with as much as there may be of all.
func full() api.Schema {
	s := api.Schema{Last: api.MaxStamp}
	for i := range api.MaxTables {
		t := api.Table{Name: strings.Repeat("t", 79) + strconv.Itoa(i), ID: api.MaxStamp - i, Part: aText(strings.Repeat("p", 100)), Clus: anInt(strings.Repeat("k", 100))}
		for j := range api.MaxCols {
			t.Cols = append(t.Cols, anInt(strings.Repeat("c", 99)+string(rune('z'-j))))
		}
		v := api.View{Name: strings.Repeat("v", 79) + strconv.Itoa(i), ID: i + 1, Table: t.Name, On: t.Cols[i].Name}
		for j, c := range t.Cols {
			if j != i {
				v.Cols = append(v.Cols, c.Name)
			}
		}
		s.Tables = append(s.Tables, t)
		s.Views = append(s.Views, v)
	}
	return s
}

// may tells of an answer of Check that is not this one, or not that of the second reading, or that turned what it was handed.
func may(t *testing.T, s api.Schema, want bool, what string) {
	t.Helper()
	s = roomy(s)
	was := whole(s)
	if Check(s) != want {
		t.Errorf("%s: Check(%+v): not %t", what, s, want)
	}
	if mayBe(s) != want {
		t.Errorf("%s: %+v: the second reading: not %t", what, s, want)
	}
	if !reflect.DeepEqual(whole(s), was) {
		t.Errorf("%s: Check turned what it was handed", what)
	}
}

// P16.1

func TestCheckOfWhatMayBe(t *testing.T) {
	may(t, api.Schema{}, true, "nothing")
	may(t, api.Schema{Last: 1}, true, "all dropped")
	may(t, api.Schema{Last: api.MaxStamp}, true, "all numbers given")
	may(t, sample(), true, "sample")
	may(t, full(), true, "full")
}

// spoilt are ways to turn the sample to one that may not be.
func spoilt() map[string]func(s *api.Schema) {
	return map[string]func(s *api.Schema){
		"last below an ID":              func(s *api.Schema) { s.Last = 5 },
		"last below 0":                  func(s *api.Schema) { *s = api.Schema{Last: -1} },
		"last above the greatest":       func(s *api.Schema) { s.Last = api.MaxStamp + 1 },
		"a table's ID 0":                func(s *api.Schema) { s.Tables[0].ID = 0 },
		"a table's ID below 0":          func(s *api.Schema) { s.Tables[0].ID = -1 },
		"a table's ID above last":       func(s *api.Schema) { s.Tables[1].ID = 7 },
		"a table's ID twice":            func(s *api.Schema) { s.Tables[1].ID = 1 },
		"a view's ID 0":                 func(s *api.Schema) { s.Views[0].ID = 0 },
		"a view's ID above last":        func(s *api.Schema) { s.Views[0].ID = 7 },
		"a view's ID twice":             func(s *api.Schema) { s.Views[0].ID = 6 },
		"a view's ID a table's":         func(s *api.Schema) { s.Views[0].ID = 5 },
		"a table without a name":        func(s *api.Schema) { s.Tables[0].Name = "" },
		"a table's great letter":        func(s *api.Schema) { s.Tables[1].Name = "U" },
		"a table named by a word":       func(s *api.Schema) { s.Tables[1].Name = "view" },
		"a table named by a sign":       func(s *api.Schema) { s.Tables[1].Name = "u*" },
		"a table's name too long":       func(s *api.Schema) { s.Tables[1].Name = strings.Repeat("u", 81) },
		"tables' names fall":            func(s *api.Schema) { s.Tables[0], s.Tables[1] = s.Tables[1], s.Tables[0] },
		"tables of one name":            func(s *api.Schema) { s.Tables[1].Name = "t" },
		"tables not by bytes":           func(s *api.Schema) { s.Views, s.Tables[0].Name, s.Tables[1].Name = nil, "\u00e9", "z" },
		"a view without a name":         func(s *api.Schema) { s.Views[0].Name = "" },
		"a view's great letter":         func(s *api.Schema) { s.Views[0].Name = "I" },
		"a view named by a word":        func(s *api.Schema) { s.Views[0].Name = "key" },
		"a view's name too long":        func(s *api.Schema) { s.Views[0].Name = strings.Repeat("i", 81) },
		"views' names fall":             func(s *api.Schema) { s.Views[0], s.Views[1] = s.Views[1], s.Views[0] },
		"views of one name":             func(s *api.Schema) { s.Views[1].Name = "i" },
		"a view and a table, one name":  func(s *api.Schema) { s.Views[1].Name = "t" },
		"a column without a name":       func(s *api.Schema) { s.Tables[0].Cols[2].Name = "" },
		"a column's great letter":       func(s *api.Schema) { s.Tables[1].Part.Name = "P" },
		"a column named by a word":      func(s *api.Schema) { s.Tables[1].Clus.Name = "limit" },
		"a column's name too long":      func(s *api.Schema) { s.Tables[1].Clus.Name = strings.Repeat("k", 101) },
		"a key's columns alike":         func(s *api.Schema) { s.Tables[1].Clus.Name = "a" },
		"a column as the key's first":   func(s *api.Schema) { s.Tables[0].Cols[2].Name = "p" },
		"a column as the key's second":  func(s *api.Schema) { s.Tables[0].Cols[2].Name = "k" },
		"a column twice":                func(s *api.Schema) { s.Views, s.Tables[0].Cols[2].Name = nil, "b" },
		"a column twice, types unlike":  func(s *api.Schema) { s.Views, s.Tables[0].Cols[2] = nil, aText("b") },
		"a column's type 0":             func(s *api.Schema) { s.Tables[0].Cols[1].Type = 0 },
		"a column's type 3":             func(s *api.Schema) { s.Tables[0].Cols[1].Type = 3 },
		"a key's type below 0":          func(s *api.Schema) { s.Tables[0].Part.Type = -1 },
		"a key's type 3":                func(s *api.Schema) { s.Tables[0].Clus.Type = 3 },
		"a view of no table":            func(s *api.Schema) { s.Views[0].Table = "x" },
		"a view of nothing":             func(s *api.Schema) { s.Views[0].Table = "" },
		"a view of a view":              func(s *api.Schema) { s.Views[0].Table = "v" },
		"a view on the key's first":     func(s *api.Schema) { s.Views[0].On = "p" },
		"a view on the key's second":    func(s *api.Schema) { s.Views[0].On = "k" },
		"a view on no column":           func(s *api.Schema) { s.Views[0].On = "x" },
		"a view on another one's":       func(s *api.Schema) { s.Views[2].On = "p" },
		"a view on nothing":             func(s *api.Schema) { s.Views[0].On = "" },
		"a view with On":                func(s *api.Schema) { s.Views[0].Cols = []string{"b"} },
		"a view with the key's first":   func(s *api.Schema) { s.Views[0].Cols = []string{"p"} },
		"a view with the key's second":  func(s *api.Schema) { s.Views[0].Cols = []string{"k", "c"} },
		"a view with no column of it":   func(s *api.Schema) { s.Views[0].Cols = []string{"c", "x"} },
		"a view with another's column":  func(s *api.Schema) { s.Views[2].Cols = []string{"p"} },
		"a view's columns turned round": func(s *api.Schema) { s.Views[1].Cols = []string{"a", "b"} },
		"a view's column twice":         func(s *api.Schema) { s.Views[1].Cols = []string{"b", "b", "a"} },
		"only named on nothing":         func(s *api.Schema) { s.Tables = nil },
		"a table's name is a view's of nothing": func(s *api.Schema) {
			s.Tables, s.Views = nil, []api.View{{Name: "v", ID: 1}}
		},
		"five tables": func(s *api.Schema) {
			for i, name := range []string{"x", "y", "z"} {
				s.Tables = append(s.Tables, api.Table{Name: name, ID: 10 + i, Part: aText("p"), Clus: aText("k")})
			}
			s.Last = 100
		},
		"five views": func(s *api.Schema) {
			s.Views = append(s.Views, api.View{Name: "x", ID: 10, Table: "t", On: "a"}, api.View{Name: "y", ID: 11, Table: "t", On: "a"})
			s.Last = 100
		},
		"nine columns": func(s *api.Schema) {
			s.Tables[1].Cols = []api.Column{anInt("b"), anInt("d"), anInt("e"), anInt("f"), anInt("g"), anInt("h"), anInt("i"), anInt("j"), anInt("k")}
		},
	}
}

func TestCheckOfWhatMayNotBe(t *testing.T) {
	for what, spoil := range spoilt() {
		s := sample()
		spoil(&s)
		may(t, s, false, what)
	}
}

func TestCheckOfEdges(t *testing.T) {
	for what, turn := range map[string]func(s *api.Schema){
		"a name of 80 bytes":       func(s *api.Schema) { s.Tables[1].Name, s.Views = strings.Repeat("u", 80), s.Views[:2] },
		"a column of 100 bytes":    func(s *api.Schema) { s.Tables[1].Clus.Name = strings.Repeat("k", 100) },
		"columns named as a table": func(s *api.Schema) { s.Tables[1].Clus.Name = "u"; s.Tables[1].Part.Name = "v" },
		"names by bytes":           func(s *api.Schema) { s.Views, s.Tables[0].Name, s.Tables[1].Name = nil, "z", "\u00e9" },
		"a name that begins alike": func(s *api.Schema) { s.Tables[1].Name, s.Views = "t_", s.Views[:2] },
		"an ID that is last":       func(s *api.Schema) { s.Tables[0].ID, s.Last = api.MaxStamp, api.MaxStamp },
		"a view with one column":   func(s *api.Schema) { s.Views[0].Cols = []string{"a"} },
		"a view with its others":   func(s *api.Schema) { s.Views[0].Cols = []string{"c", "a"} },
		"a view named as a column": func(s *api.Schema) { s.Views[0].Name = "a" },
		"four views of a column": func(s *api.Schema) {
			s.Views = append(s.Views, api.View{Name: "x", ID: 4, Table: "t", On: "c"})
		},
		"eight columns": func(s *api.Schema) {
			s.Tables[1].Cols = []api.Column{anInt("b"), anInt("d"), anInt("e"), anInt("f"), anInt("g"), anInt("h"), anInt("i"), anInt("j")}
		},
		"no view": func(s *api.Schema) { s.Views = []api.View{} },
	} {
		s := sample()
		turn(&s)
		may(t, s, true, what)
	}
}

func TestCheckOfGrammarsWords(t *testing.T) {
	for _, w := range great {
		for _, name := range []string{strings.ToLower(w), w, strings.ToLower(w) + "s"} {
			s := api.Schema{Last: 2, Tables: []api.Table{{Name: name, ID: 2, Part: aText("p"), Clus: anInt("k")}}}
			may(t, s, strings.HasSuffix(name, "s") && isWord(name), name)
			s.Tables[0].Name, s.Tables[0].Cols = "t", []api.Column{anInt(name)}
			may(t, s, strings.HasSuffix(name, "s") && isWord(name), name)
			s.Tables[0].Cols = []api.Column{anInt("a")}
			s.Views = []api.View{{Name: name, ID: 1, Table: "t", On: "a"}}
			may(t, s, strings.HasSuffix(name, "s") && isWord(name), name)
		}
	}
}

// P16.1, P16.3: the samples with each thing in them turned, and some of them with two.
func TestTurned(t *testing.T) {
	for _, x := range []struct {
		make  func() api.Schema
		twice int // of so many turns one is turned again
	}{{sample, 50}, {full, 1 << 30}, {func() api.Schema { return api.Schema{} }, 1}} {
		s, was := x.make(), x.make()
		n, yes, no := 0, 0, 0
		look := func() {
			if want := mayBe(s); Check(s) != want {
				t.Errorf("Check(%+v): not %t", s, want)
			} else if want {
				yes++
			} else {
				no++
			}
			if want := alike(s, was); Same(s, was) != want || Same(was, s) != want {
				t.Errorf("Same(%+v, %+v): not %t", s, was, want)
			}
		}
		turns(reflect.ValueOf(&s).Elem(), func() {
			look()
			if n++; n%x.twice == 0 {
				turns(reflect.ValueOf(&s).Elem(), look)
			}
		})
		if yes < 8 || no < 8 {
			t.Error(yes, no)
		}
	}
}

// P16.1, R1: whatever is handed in, it ends.
func TestCheckOfMuch(t *testing.T) {
	long := strings.Repeat("n", 1<<20)
	many := make([]string, 1<<17)
	cols := make([]api.Column, 1<<17)
	for i := range cols {
		many[i], cols[i] = "a", anInt("c"+strconv.Itoa(i))
	}
	for i, s := range []api.Schema{
		{Last: 9, Tables: make([]api.Table, 1<<17)},
		{Last: 9, Views: make([]api.View, 1<<17)},
		{Last: 9, Tables: []api.Table{{Name: "t", ID: 1, Part: aText("p"), Clus: aText("k"), Cols: cols}}},
		{Last: 9, Tables: []api.Table{{Name: long, ID: 1, Part: aText("p"), Clus: aText("k")}}},
		{Last: 9, Tables: []api.Table{{Name: "t", ID: 1, Part: aText(long), Clus: aText(long + "n")}}},
		{Last: 9, Tables: []api.Table{{Name: "t", ID: 1, Part: aText("p"), Clus: aText("k"), Cols: []api.Column{aText("a"), aText("b")}}}, Views: []api.View{{Name: "v", ID: 2, Table: "t", On: "b", Cols: many}}},
		{Last: 1<<63 - 1, Tables: []api.Table{{ID: -1 << 63}}},
	} {
		if Check(s) {
			t.Error(i)
		}
	}
}
