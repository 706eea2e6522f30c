package parse

import (
	"slices"

	"clerestory/api"
)

// tree is a statement of a kind, behind the words that tell the kind.
type tree interface {
	lead(w walker) // along the rest of it
}

type (
	createTable struct{ *api.Stmt }
	createView  struct{ *api.Stmt }
	createIndex struct{ *api.Stmt }
	drop        struct{ *api.Stmt }
	insert      struct{ *api.Stmt }
	update      struct{ *api.Stmt }
	deletion    struct{ *api.Stmt }
	selection   struct{ *api.Stmt }
	batch       struct{ *api.Stmt }
)

// start leads along the words that tell a statement's kind.
func start(w walker, x *api.Stmt) tree {
	switch {
	case w.may("CREATE", x.Kind == api.CreateTable || x.Kind == api.CreateView || x.Kind == api.CreateIndex):
		return create(w, x)
	case w.may("DROP", x.Kind == api.Drop):
		return drop{x}
	case w.may("SELECT", x.Kind == api.Select):
		return selection{x}
	case w.may("BEGIN", x.Kind == api.Batched):
		return batch{x}
	}
	return change(w, x)
}

// create leads along the words behind CREATE.
func create(w walker, x *api.Stmt) tree {
	switch {
	case w.may("TABLE", x.Kind == api.CreateTable):
		return createTable{x}
	case w.may("INDEX", x.Kind == api.CreateIndex):
		return createIndex{x}
	}
	w.piece("MATERIALIZED VIEW")
	return createView{x}
}

// change leads along the word that tells the kind of a statement that a batch may have.
func change(w walker, x *api.Stmt) tree {
	switch {
	case w.may("INSERT", x.Kind == api.Insert):
		return insert{x}
	case w.may("UPDATE", x.Kind == api.Update):
		return update{x}
	}
	w.piece("DELETE")
	return deletion{x}
}

func (x createTable) lead(w walker) {
	x.Kind = api.CreateTable
	t := x.Table
	w.name(&x.Name)
	w.piece("(")
	all := declared(w, slices.Concat([]api.Column{t.Part, t.Clus}, t.Cols))
	w.piece("KEY (")
	part := keyed(w, t.Part, all)
	w.piece(",")
	clus := keyed(w, t.Clus, all)
	w.must(clus != part)
	w.piece(") )")
	others := slices.DeleteFunc(all, func(c api.Column) bool { return c == part || c == clus })
	x.Table = api.Table{Name: x.Name, Part: part, Clus: clus, Cols: others}
}

func (x createView) lead(w walker) {
	x.Kind = api.CreateView
	w.name(&x.Name)
	w.piece("AS SELECT")
	x.Cols = allOrColumns(w, x.Cols)
	w.piece("FROM")
	w.name(&x.Of)
	w.piece("WHERE")
	w.name(&x.On)
	w.piece("IS NOT NULL PRIMARY KEY (")
	first := x.On
	w.name(&first)
	w.must(first == x.On)
	var others [2]string
	copy(others[:], names(x.Where))
	for i := range others {
		w.piece(",")
		w.name(&others[i])
	}
	w.piece(")")
	x.Where = []api.Pair{{Name: others[0]}, {Name: others[1]}}
}

func (x createIndex) lead(w walker) {
	x.Kind = api.CreateIndex
	w.name(&x.Name)
	w.piece("ON")
	w.name(&x.Of)
	w.piece("(")
	w.name(&x.On)
	w.piece(")")
}

func (x drop) lead(w walker) {
	x.Kind = api.Drop
	w.name(&x.Name)
}

func (x insert) lead(w walker) {
	x.Kind = api.Insert
	w.piece("INTO")
	w.name(&x.Of)
	w.piece("(")
	cols := columns(w, names(x.Sets), api.MaxCols+2)
	w.piece(") VALUES (")
	vals := each(w, terms(x.Sets), w.value)
	w.piece(")")
	w.must(len(vals) == len(cols))
	x.Sets = pairs(cols, vals)
	using(w, &x.Stamp, &x.TTL)
}

func (x update) lead(w walker) {
	x.Kind = api.Update
	w.name(&x.Of)
	using(w, &x.Stamp, &x.TTL)
	w.piece("SET")
	x.Sets = sets(w, x.Sets)
	x.Where = where(w, x.Where, true)
}

func (x deletion) lead(w walker) {
	x.Kind = api.Delete
	if !w.may("FROM", len(x.Cols) == 0) {
		x.Cols = columns(w, x.Cols, api.MaxCols)
		w.piece("FROM")
	}
	w.name(&x.Of)
	if w.may("USING", x.Stamp != 0) {
		w.piece("TIMESTAMP")
		w.number(&x.Stamp)
	}
	x.Where = where(w, x.Where, false)
}

func (x selection) lead(w walker) {
	x.Kind = api.Select
	x.Cols = allOrColumns(w, x.Cols)
	w.piece("FROM")
	w.name(&x.Of)
	x.Where = where(w, x.Where, false)
	if w.may("LIMIT", x.Limit != 0) {
		w.number(&x.Limit)
	}
}

func (x batch) lead(w walker) {
	x.Kind = api.Batched
	w.piece("BATCH")
	var parts []api.Stmt
	for len(parts) == 0 || !w.may("APPLY", len(parts) >= len(x.Parts)) {
		part := at(x.Parts, len(parts))
		t := change(w, &part)
		w.must(len(parts) < api.MaxBatch)
		t.lead(w)
		w.piece(";")
		parts = append(parts, part)
	}
	w.piece("BATCH")
	x.Parts = parts
}
