package schema

import (
	"reflect"
	"strings"
	"testing"

	"clerestory/api"
)

// odd is a schema that may not be: its names are there twice, and in no order.
func odd() api.Schema {
	return api.Schema{
		Last: -5,
		Tables: []api.Table{
			{Name: "t", ID: 7, Part: aText("p"), Clus: anInt("p"), Cols: []api.Column{anInt("a"), aText("a"), {Name: "p", Type: 9}, {Name: "\xff", Type: -1}}},
			{Name: "t", ID: 8, Part: aText("p")},
			{Name: "", ID: -9},
			{Name: "A", ID: 7, Cols: make([]api.Column, 20)},
		},
		Views: []api.View{
			{Name: "t", ID: 1, Table: "t", On: "x", Cols: []string{"x", "x"}},
			{Name: "v", ID: 2, Table: "", On: "y"},
			{Name: "t", ID: 3, Table: "A", On: "z"},
			{Name: "v", ID: 4, Table: "t", On: "w", Cols: []string{""}},
			{Name: "", ID: 5, Table: "t"},
		},
	}
}

// P16.3

func TestTable(t *testing.T) {
	for _, s := range []api.Schema{{}, sample(), full(), odd()} {
		for _, name := range append(awkward(), storeNames(s)...) {
			want, there := api.Table{}, false
			for i := len(s.Tables) - 1; i >= 0; i-- {
				if s.Tables[i].Name == name {
					want, there = s.Tables[i], true
				}
			}
			if got, ok := Table(s, name); !alike(got, want) || ok != there || shares(got, s) {
				t.Errorf("Table(%+v, %q): %+v, %t", s, name, got, ok)
			}
		}
	}
	if x, ok := Table(odd(), "t"); x.ID != 7 || !ok {
		t.Error("not the first", x)
	}
	if x, ok := Table(odd(), ""); x.ID != -9 || !ok {
		t.Error("without a name", x)
	}
}

func TestView(t *testing.T) {
	for _, s := range []api.Schema{{}, sample(), full(), odd()} {
		for _, name := range append(awkward(), storeNames(s)...) {
			want, there := api.View{}, false
			for i := len(s.Views) - 1; i >= 0; i-- {
				if s.Views[i].Name == name {
					want, there = s.Views[i], true
				}
			}
			if got, ok := View(s, name); !alike(got, want) || ok != there || shares(got, s) {
				t.Errorf("View(%+v, %q): %+v, %t", s, name, got, ok)
			}
		}
	}
	if x, ok := View(odd(), "t"); x.ID != 1 || !ok {
		t.Error("not the first", x)
	}
	if x, ok := View(odd(), "v"); x.ID != 2 || !ok {
		t.Error("not the first", x)
	}
}

func TestColumn(t *testing.T) {
	for _, s := range []api.Schema{sample(), full(), odd(), {Tables: []api.Table{{}}}} {
		for _, x := range s.Tables {
			all := append([]api.Column{x.Part, x.Clus}, x.Cols...)
			for _, name := range awkward() {
				want, there := api.Column{}, false
				for i := len(all) - 1; i >= 0; i-- {
					if all[i].Name == name {
						want, there = all[i], true
					}
				}
				if got, ok := Column(x, name); got != want || ok != there {
					t.Errorf("Column(%+v, %q): %+v, %t", x, name, got, ok)
				}
			}
		}
	}
	x := odd().Tables[0]
	for name, want := range map[string]api.Column{"p": aText("p"), "a": anInt("a"), "\xff": {Name: "\xff", Type: -1}} {
		if got, ok := Column(x, name); got != want || !ok {
			t.Error(name, got, ok)
		}
	}
	if got, ok := Column(api.Table{Part: aText("p"), Clus: anInt("k"), Cols: []api.Column{aText("k")}}, "k"); got != anInt("k") || !ok {
		t.Error("not the key's", got)
	}
	if got, ok := Column(x, "t"); got != (api.Column{}) || ok {
		t.Error("not there", got)
	}
}

func TestStore(t *testing.T) {
	for _, x := range []struct {
		name string
		id   int
		want string
	}{{"t", 12, "t_12"}, {"t", 0, "t_0"}, {"t", -1, "t_0"}, {"t", -1 << 63, "t_0"}, {"t", 1<<63 - 1, "t_9223372036854775807"}, {"", 5, "_5"}, {"", -5, "_0"}, {"t_1", 1, "t_1_1"}, {"\xff T'", 3, "\xff T'_3"}, {strings.Repeat("n", 1000), api.MaxStamp, strings.Repeat("n", 1000) + "_1099511627776"}} {
		if got := Store(x.name, x.id); got != x.want {
			t.Errorf("Store(%q, %d): %q", x.name, x.id, got)
		}
	}
}

func TestOf(t *testing.T) {
	for _, s := range []api.Schema{{}, sample(), full(), odd()} {
		for _, name := range append(awkward(), storeNames(s)...) {
			want := []api.View{}
			for _, v := range s.Views {
				if v.Table == name {
					want = append(want, v)
				}
			}
			if got := Of(s, name); !alike(got, want) || shares(got, s) {
				t.Errorf("Of(%+v, %q): %+v", s, name, got)
			}
		}
	}
	if l := Of(odd(), "t"); len(l) != 3 || l[0].ID != 1 || l[1].ID != 4 || l[2].ID != 5 {
		t.Error(l)
	}
	if l := Of(odd(), ""); len(l) != 1 || l[0].ID != 2 {
		t.Error(l)
	}
	if l := Of(odd(), "v"); len(l) != 0 {
		t.Error(l)
	}
}

func TestSame(t *testing.T) {
	list := []api.Schema{{}, {Last: 1}, sample(), full(), odd()}
	for i, a := range list {
		for j, b := range list {
			if Same(a, b) != (i == j) || Same(a, roomy(b)) != (i == j) {
				t.Error(i, j)
			}
		}
	}
	none := api.Schema{Tables: []api.Table{}, Views: []api.View{}}
	if !Same(none, api.Schema{}) || !Same(api.Schema{}, none) {
		t.Error("an empty list is none")
	}
	a, b := sample(), sample()
	a.Views[0].Cols = []string{}
	if !Same(a, b) || !Same(b, a) {
		t.Error("an empty list in a list is none")
	}
}

// P16.3 (of whatever schemas): odd ones with each thing turned.
func TestSameOfOdd(t *testing.T) {
	s, was := odd(), odd()
	n := 0
	turns(reflect.ValueOf(&s).Elem(), func() {
		want := alike(s, was)
		if Same(s, was) != want || Same(was, s) != want {
			t.Errorf("Same(%+v, %+v): not %t", s, was, want)
		}
		if n++; Check(s) {
			t.Errorf("Check(%+v)", s)
		}
	})
	if n < 1000 {
		t.Error(n)
	}
}

// R3: what is handed in is as it was, spare room too.
func TestReadingTurnsNothing(t *testing.T) {
	for _, s := range []api.Schema{sample(), full(), odd()} {
		a, b := roomy(s), roomy(s)
		was := whole(a)
		for _, name := range []string{"t", "v", "a", ""} {
			Table(a, name)
			View(a, name)
			Column(a.Tables[0], name)
			Of(a, name)
		}
		Same(a, b)
		if !reflect.DeepEqual(whole(a), was) || !reflect.DeepEqual(whole(b), was) {
			t.Errorf("turned %+v", s)
		}
	}
}
