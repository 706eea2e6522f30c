package parse

import (
	"reflect"
	"slices"
	"strings"
	"testing"
	"unicode/utf8"

	"clerestory/api"
	"clerestory/lex"
)

// mayBe is a second reading of what Check is: kind by kind, what must stand where, and all else nought.
func mayBe(x api.Stmt) bool {
	none := api.Stmt{Kind: x.Kind}
	ok := false
	switch x.Kind {
	case 1:
		none.Name, none.Table = x.Name, x.Table
		all := append([]api.Column{x.Table.Part, x.Table.Clus}, x.Table.Cols...)
		var names []string
		for _, c := range all {
			names = append(names, c.Name)
		}
		ok = isName(x.Name) && x.Table.Name == x.Name && x.Table.ID == 0 && areNames(names, 10) &&
			!slices.ContainsFunc(all, func(c api.Column) bool { return c.Type != 1 && c.Type != 2 })
	case 2:
		none.Name, none.Cols, none.Of, none.On, none.Where = x.Name, x.Cols, x.Of, x.On, x.Where
		ok = isName(x.Name, x.Of, x.On) && (len(x.Cols) == 0 || areNames(x.Cols, 8)) && len(x.Where) == 2 &&
			isName(x.Where[0].Name, x.Where[1].Name) && x.Where[0].Term == api.Term{} && x.Where[1].Term == api.Term{}
	case 3:
		none.Name, none.Of, none.On = x.Name, x.Of, x.On
		ok = isName(x.Name, x.Of, x.On)
	case 4:
		none.Name = x.Name
		ok = isName(x.Name)
	case 5:
		none.Of, none.Sets, none.Stamp, none.TTL = x.Of, x.Sets, x.Stamp, x.TTL
		ok = isName(x.Of) && areSets(x.Sets, 10)
	case 6:
		none.Of, none.Sets, none.Where, none.Stamp, none.TTL = x.Of, x.Sets, x.Where, x.Stamp, x.TTL
		ok = isName(x.Of) && areSets(x.Sets, 8) && len(x.Where) == 2 && isWhere(x.Where)
	case 7:
		none.Cols, none.Of, none.Stamp, none.Where = x.Cols, x.Of, x.Stamp, x.Where
		ok = isName(x.Of) && (len(x.Cols) == 0 || areNames(x.Cols, 8)) && isWhere(x.Where)
	case 8:
		none.Cols, none.Of, none.Where, none.Limit = x.Cols, x.Of, x.Where, x.Limit
		ok = isName(x.Of) && (len(x.Cols) == 0 || areNames(x.Cols, 8)) && isWhere(x.Where)
	case 9:
		none.Parts = x.Parts
		ok = len(x.Parts) >= 1 && len(x.Parts) <= 8 && !slices.ContainsFunc(x.Parts, func(part api.Stmt) bool {
			return part.Kind < 5 || part.Kind > 7 || !mayBe(part)
		})
	}
	for _, n := range []int{x.Stamp, x.TTL, x.Limit} {
		ok = ok && n >= 0 && n <= 1<<40
	}
	return ok && alike(x, none) && len(printed(x)) <= 1000
}

func isName(names ...string) bool {
	for _, s := range names {
		tokens, _, e := lex.All(s)
		if e != api.OK || len(tokens) != 1 || tokens[0] != (lex.Token{Kind: lex.Word, S: s}) || slices.Contains(great, strings.ToUpper(s)) {
			return false
		}
	}
	return true
}

func areNames(names []string, most int) bool {
	sorted := slices.Sorted(slices.Values(names))
	return isName(names...) && len(names) >= 1 && len(names) <= most && len(slices.Compact(sorted)) == len(names)
}

func isTerm(t api.Term) bool {
	if t.Type == 2 {
		return t.S == "" && t.N >= -1<<40 && t.N <= 1<<40
	}
	return t.Type == 1 && t.N == 0 && len(t.S) <= 100 && utf8.ValidString(t.S)
}

func areSets(list []api.Pair, most int) bool {
	var names []string
	for _, p := range list {
		names = append(names, p.Name)
		if !isTerm(p.Term) {
			return false
		}
	}
	return areNames(names, most)
}

func isWhere(list []api.Pair) bool {
	return len(list) >= 1 && len(list) <= 2 && areSets(list[:1], 1) && areSets(list[len(list)-1:], 1)
}

// turns calls f with all that x is if one thing in it is another one, or a list has one more or less.
func turns(x reflect.Value, f func()) {
	was := reflect.New(x.Type()).Elem()
	was.Set(x)
	try := func(v any) {
		x.Set(reflect.ValueOf(v).Convert(x.Type()))
		f()
		x.Set(was)
	}
	switch x.Kind() {
	case reflect.String:
		for _, s := range []string{"", "v", "p", "k", "a", "V", "table", "ttl", "ttls", " v", "v ", "v;", "v,w", "v--", "*", "5", "5v", "'v'", "\u00e9", "\xff", "it's", strings.Repeat("n", 100), strings.Repeat("n", 101), strings.Repeat("n", 1001)} {
			try(s)
		}
	case reflect.Int:
		for _, n := range []int{-1 << 63, -1<<40 - 1, -1 << 40, -1, 0, 1, 2, 3, 4, 5, 6, 7, 8, 9, 10, 1 << 40, 1<<40 + 1, 1<<63 - 1} {
			try(n)
		}
	case reflect.Struct:
		for i := range x.NumField() {
			turns(x.Field(i), f)
		}
	case reflect.Slice:
		none := reflect.Zero(x.Type().Elem())
		try(reflect.Append(clone(x), none).Interface())
		for i := range x.Len() {
			turns(x.Index(i), f)
			try(reflect.AppendSlice(clone(x.Slice(0, i)), x.Slice(i+1, x.Len())).Interface())
			for _, times := range []int{1, 2, 7, 8, 9, 10, 100} {
				more := clone(x)
				for range times {
					more = reflect.Append(more, x.Index(i))
				}
				try(more.Interface())
			}
		}
	}
}

func clone(x reflect.Value) reflect.Value {
	return reflect.AppendSlice(reflect.Zero(x.Type()), x)
}

// checked tells of an answer of Check that is not that of the second reading, or that turned what it was handed; of a statement that may be, also if its text is not parsed as it.
func checked(t *testing.T, x api.Stmt) bool {
	t.Helper()
	want := mayBe(x)
	was := bare(x)
	if Check(x) != want {
		t.Errorf("Check(%+v): not %t", x, want)
	}
	if !alike(x, was) {
		t.Errorf("Check turned %+v to %+v", was, x)
	}
	if want {
		if got, at, e := Parse(printed(x)); !alike(got, x) || at != 0 || e != api.OK {
			t.Errorf("Parse(%q): %+v, %d, %d", printed(x), got, at, e)
		}
	}
	return want
}

// P14.4: each statement of the samples, with each thing in it turned.
func TestCheckOfTurned(t *testing.T) {
	for _, sample := range samples {
		x, _, e := Parse(sample)
		if e != api.OK || !checked(t, x) {
			t.Error(sample, e)
		}
		x = bare(x)
		yes, no := 0, 0
		turns(reflect.ValueOf(&x).Elem(), func() {
			if checked(t, x) {
				yes++
			} else {
				no++
			}
		})
		if yes < 10 || no < 100 {
			t.Error(sample, yes, no)
		}
	}
}

// P14.4: with two things turned.
func TestCheckOfTwiceTurned(t *testing.T) {
	m := &maker{state: 4}
	for _, sample := range samples {
		x, _, _ := Parse(sample)
		x = bare(x)
		turns(reflect.ValueOf(&x).Elem(), func() {
			if m.often(12) || len(x.Parts) > 20 {
				return
			}
			turns(reflect.ValueOf(&x).Elem(), func() {
				if m.pick(20) == 0 {
					checked(t, x)
				}
			})
		})
	}
}

// P14.4, R1: whatever is handed in, it ends.
func TestCheckOfMuch(t *testing.T) {
	many := make([]string, 1<<17)
	sets := make([]api.Pair, 1<<17)
	cols := make([]api.Column, 1<<17)
	parts := make([]api.Stmt, 1<<12)
	for i := range many {
		many[i] = "a"
	}
	deep := api.Stmt{Kind: api.Batched}
	for range 100000 {
		deep = api.Stmt{Kind: api.Batched, Parts: []api.Stmt{deep}}
	}
	for kind := -1; kind <= 11; kind++ {
		for _, x := range []api.Stmt{{}, {Cols: many}, {Sets: sets}, {Where: sets}, {Table: api.Table{Cols: cols}}, {Parts: parts}, {Name: strings.Repeat("n", 1<<20)}, {Cols: many, Sets: sets, Where: sets, Parts: parts}, deep} {
			x.Kind = kind
			if Check(x) {
				t.Error(kind)
			}
		}
	}
}
