package parse

import (
	"slices"

	"clerestory/api"
)

// at is what stands in a list at a place; nought beyond its end, for a reader to fill in.
func at[T any](list []T, i int) T {
	if i < len(list) {
		return list[i]
	}
	var none T
	return none
}

// each leads along a list with commas between, one at a time.
func each[T any](w walker, list []T, one func(x *T)) []T {
	var all []T
	for len(all) == 0 || w.may(",", len(all) < len(list)) {
		x := at(list, len(all))
		one(&x)
		all = append(all, x)
	}
	return all
}

// distinct are the columns of a list up to here. It has none twice, and no more than most.
type distinct struct {
	names []string
	most  int
}

// name leads along one more.
func (d *distinct) name(w walker, s *string) {
	w.name(s)
	w.must(len(d.names) < d.most && !slices.Contains(d.names, *s))
	d.names = append(d.names, *s)
}

// columns leads along columns.
func columns(w walker, list []string, most int) []string {
	d := distinct{most: most}
	return each(w, list, func(x *string) { d.name(w, x) })
}

// allOrColumns leads along a sign for all, or columns.
func allOrColumns(w walker, list []string) []string {
	if w.may("*", len(list) == 0) {
		return nil
	}
	return columns(w, list, api.MaxCols)
}

// declared leads along a table's columns, each with a comma behind it, and the word behind them all.
func declared(w walker, list []api.Column) []api.Column {
	var all []api.Column
	d := distinct{most: api.MaxCols + 2}
	for !w.may("PRIMARY", len(all) >= len(list)) {
		c := at(list, len(all))
		d.name(w, &c.Name)
		typed(w, &c)
		w.piece(",")
		all = append(all, c)
	}
	return all
}

// typed leads along a column's type.
func typed(w walker, c *api.Column) {
	if w.may("TEXT", c.Type == api.Text) {
		c.Type = api.Text
		return
	}
	w.piece("INT")
	c.Type = api.Int
}

// keyed leads along a column of a table's key, which must be one of all (that of a writer is).
func keyed(w walker, c api.Column, all []api.Column) api.Column {
	w.name(&c.Name)
	i := slices.IndexFunc(all, func(x api.Column) bool { return x.Name == c.Name })
	w.must(i >= 0)
	return all[i]
}

// sets leads along columns and what they are set to.
func sets(w walker, list []api.Pair) []api.Pair {
	d := distinct{most: api.MaxCols}
	return each(w, list, func(x *api.Pair) {
		d.name(w, &x.Name)
		value(w, x)
	})
}

// value leads along the value that a column has.
func value(w walker, x *api.Pair) {
	w.piece("=")
	w.value(&x.Term)
}

// where leads along one or two columns of a key and their values; along two, if both must be.
func where(w walker, list []api.Pair, both bool) []api.Pair {
	w.piece("WHERE")
	first, second := at(list, 0), at(list, 1)
	w.name(&first.Name)
	value(w, &first)
	switch {
	case both:
		w.piece("AND")
	case !w.may("AND", len(list) > 1):
		return []api.Pair{first}
	}
	w.name(&second.Name)
	value(w, &second)
	return []api.Pair{first, second}
}

// using leads along a stamp, a TTL, or both, if they are there.
func using(w walker, stamp, ttl *int) {
	if !w.may("USING", *stamp != 0 || *ttl != 0) {
		return
	}
	if w.may("TIMESTAMP", *stamp != 0) {
		w.number(stamp)
		if !w.may("AND", *ttl != 0) {
			return
		}
	}
	w.piece("TTL")
	w.number(ttl)
}

// names are the columns of pairs.
func names(list []api.Pair) []string {
	var all []string
	for _, x := range list {
		all = append(all, x.Name)
	}
	return all
}

// terms are the values of pairs.
func terms(list []api.Pair) []api.Term {
	var all []api.Term
	for _, x := range list {
		all = append(all, x.Term)
	}
	return all
}

// pairs are columns with as many values.
func pairs(names []string, terms []api.Term) []api.Pair {
	var all []api.Pair
	for i, name := range names {
		all = append(all, api.Pair{Name: name, Term: terms[i]})
	}
	return all
}
