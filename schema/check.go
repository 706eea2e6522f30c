package schema

import (
	"cmp"
	"slices"

	"clerestory/api"
	"clerestory/parse"
	"clerestory/runes"
)

// maxName is how many bytes the name of a table or a view may have. Store puts a number behind it: MaxText bytes in all must do.
const maxName = 80

// Check tells whether a schema may be.
func Check(s api.Schema) bool {
	return s.Last >= 0 && s.Last <= api.MaxStamp &&
		len(s.Tables) <= api.MaxTables && len(s.Views) <= api.MaxViews &&
		named(s) && numbered(s) && tablesMay(s) && viewsMay(s)
}

// named tells whether tables and views have names in order, none of them twice.
func named(s api.Schema) bool {
	names := storeNames(s)
	for _, name := range names {
		if len(name) > maxName || !isName(name) {
			return false
		}
	}
	return rising(s.Tables, tableName) && rising(s.Views, viewName) && unlike(names)
}

// numbered tells whether tables and views have numbers that were given, none of them twice.
func numbered(s api.Schema) bool {
	var ids []int
	for _, t := range s.Tables {
		ids = append(ids, t.ID)
	}
	for _, v := range s.Views {
		ids = append(ids, v.ID)
	}
	given := func(id int) bool { return id >= 1 && id <= s.Last }
	return each(ids, given) && unlike(ids)
}

func tablesMay(s api.Schema) bool {
	return each(s.Tables, tableMay)
}

// tableMay tells whether a table may have its columns.
func tableMay(t api.Table) bool {
	if len(t.Cols) > api.MaxCols {
		return false
	}
	cols := columns(t)
	return each(cols, columnMay) && unlike(columnNames(cols))
}

func columnMay(c column) bool {
	return (c.Type == api.Text || c.Type == api.Int) && isName(c.Name)
}

func viewsMay(s api.Schema) bool {
	return each(s.Views, func(v api.View) bool { return viewMay(s, v) })
}

// viewMay tells whether a view has a table, and columns as they are there.
func viewMay(s api.Schema, v api.View) bool {
	t, there := Table(s, v.Table)
	on, known := find(t, v.On)
	cols, all := pick(t, v.Cols)
	return there && known && all && !on.inKey() && beside(on, cols) && rising(cols, placeOf)
}

// isName tells whether a text is a name. Only parse knows which words are the grammar's, so it is asked of a statement with that name.
func isName(s string) bool {
	return runes.Name(s) && parse.Check(api.Stmt{Kind: api.Drop, Name: s})
}

// storeNames are the names of all tables and views.
func storeNames(s api.Schema) []string {
	var names []string
	for _, t := range s.Tables {
		names = append(names, t.Name)
	}
	for _, v := range s.Views {
		names = append(names, v.Name)
	}
	return names
}

func tableName(t api.Table) string { return t.Name }

func viewName(v api.View) string { return v.Name }

// each tells whether all of a list are as is asked.
func each[T any](list []T, ask func(T) bool) bool {
	return !slices.ContainsFunc(list, func(x T) bool { return !ask(x) })
}

// rising tells whether what stands for each of a list is below what stands for the next one.
func rising[T any, K cmp.Ordered](list []T, of func(T) K) bool {
	for i, x := range list {
		if i > 0 && of(list[i-1]) >= of(x) {
			return false
		}
	}
	return true
}

// unlike tells whether none of a list is there twice.
func unlike[T cmp.Ordered](list []T) bool {
	sorted := slices.Sorted(slices.Values(list))
	return len(slices.Compact(sorted)) == len(list)
}
