package schema

import (
	"slices"

	"clerestory/api"
)

// column is one of a table's, and where it stands there.
type column struct {
	api.Column
	place int // among the table's Cols, or ofKey
}

// ofKey is the place of the columns of a table's key.
const ofKey = -1

// columns are a table's, those of its key first.
func columns(t api.Table) []column {
	all := []column{{t.Part, ofKey}, {t.Clus, ofKey}}
	for i, c := range t.Cols {
		all = append(all, column{c, i})
	}
	return all
}

// inKey tells whether a column is one of its table's key.
func (c column) inKey() bool {
	return c.place == ofKey
}

// find is a table's first column of a name.
func find(t api.Table, name string) (column, bool) {
	for _, c := range columns(t) {
		if c.Name == name {
			return c, true
		}
	}
	return column{}, false
}

// pick are a table's columns of these names; none, if one is not there.
func pick(t api.Table, names []string) ([]column, bool) {
	var picked []column
	for _, name := range names {
		c, ok := find(t, name)
		if !ok {
			return nil, false
		}
		picked = append(picked, c)
	}
	return picked, true
}

// beside tells whether a view on a column may have these ones: it has that one, and those of the table's key, already.
func beside(on column, cols []column) bool {
	return !slices.ContainsFunc(cols, func(c column) bool { return c.inKey() || c.Name == on.Name })
}

// columnNames are the names of columns.
func columnNames(cols []column) []string {
	var names []string
	for _, c := range cols {
		names = append(names, c.Name)
	}
	return names
}

func placeOf(c column) int { return c.place }
