package schema

import (
	"cmp"
	"slices"

	"clerestory/api"
	"clerestory/parse"
)

// Apply is what a statement makes of a schema.
func Apply(s api.Schema, x api.Stmt) (api.Schema, api.Errno) {
	if !Check(s) || !parse.Check(x) {
		return api.Schema{}, api.ErrArg
	}
	next := copySchema(s)
	switch x.Kind {
	case api.CreateTable:
		return createTable(next, x)
	case api.CreateView:
		return createView(next, x)
	case api.CreateIndex:
		return createIndex(next, x)
	case api.Drop:
		return drop(next, x.Name)
	}
	return api.Schema{}, api.ErrArg
}

// createTable is a schema with a table more.
func createTable(s api.Schema, x api.Stmt) (api.Schema, api.Errno) {
	switch {
	case taken(s, x.Name):
		return api.Schema{}, api.ErrName
	case len(s.Tables) == api.MaxTables || !fits(s, x.Name):
		return api.Schema{}, api.ErrBig
	}
	s.Last++
	t := copyTable(x.Table)
	t.ID = s.Last
	s.Tables = put(s.Tables, t, tableName)
	return s, api.OK
}

// createView is a schema with a view more.
func createView(s api.Schema, x api.Stmt) (api.Schema, api.Errno) {
	if len(x.Cols) == 0 {
		t, _ := Table(s, x.Of)
		x.Cols = others(t, x.On)
	}
	return addView(s, x)
}

// createIndex is a schema with an index more: a view of a key as it must be, without columns.
func createIndex(s api.Schema, x api.Stmt) (api.Schema, api.Errno) {
	t, _ := Table(s, x.Of)
	x.Where = []api.Pair{{Name: t.Part.Name}, {Name: t.Clus.Name}}
	return addView(s, x)
}

// addView is a schema with a view more, of just the columns that a statement names.
func addView(s api.Schema, x api.Stmt) (api.Schema, api.Errno) {
	t, there := Table(s, x.Of)
	on, known := find(t, x.On)
	cols, all := pick(t, x.Cols)
	switch {
	case taken(s, x.Name) || !there || !known || !all:
		return api.Schema{}, api.ErrName
	case on.inKey() || !keyed(t, x.Where) || !beside(on, cols):
		return api.Schema{}, api.ErrType
	case len(s.Views) == api.MaxViews || !fits(s, x.Name):
		return api.Schema{}, api.ErrBig
	}
	s.Last++
	sortBy(cols, placeOf)
	v := api.View{Name: x.Name, ID: s.Last, Table: t.Name, On: on.Name, Cols: columnNames(cols)}
	s.Views = put(s.Views, v, viewName)
	return s, api.OK
}

// drop is a schema without a table, or a view.
func drop(s api.Schema, name string) (api.Schema, api.Errno) {
	switch {
	case !taken(s, name):
		return api.Schema{}, api.ErrName
	case len(Of(s, name)) > 0:
		return api.Schema{}, api.ErrType
	}
	s.Tables = slices.DeleteFunc(s.Tables, func(t api.Table) bool { return t.Name == name })
	s.Views = slices.DeleteFunc(s.Views, func(v api.View) bool { return v.Name == name })
	return s, api.OK
}

// taken tells whether a table or a view has a name.
func taken(s api.Schema, name string) bool {
	return slices.Contains(storeNames(s), name)
}

// fits tells whether one more may have this name, and a number.
func fits(s api.Schema, name string) bool {
	return len(name) <= maxName && s.Last < api.MaxStamp
}

// keyed tells whether a view's others of its key are its table's key.
func keyed(t api.Table, others []api.Pair) bool {
	return others[0].Name == t.Part.Name && others[1].Name == t.Clus.Name
}

// others are the names of a table's Cols, but for one.
func others(t api.Table, but string) []string {
	var names []string
	for _, c := range t.Cols {
		if c.Name != but {
			names = append(names, c.Name)
		}
	}
	return names
}

// put is a list with one more, in the order of names.
func put[T any](list []T, x T, name func(T) string) []T {
	list = append(list, x)
	sortBy(list, name)
	return list
}

// sortBy sorts a list by what stands for each.
func sortBy[T any, K cmp.Ordered](list []T, of func(T) K) {
	slices.SortFunc(list, func(a, b T) int { return cmp.Compare(of(a), of(b)) })
}
