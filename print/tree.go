package print

import (
	"clerestory/api"
)

// The inner tree: a statement, and a value, as a type of its kind.
type (
	createTable api.Table
	createView  api.Stmt
	createIndex api.Stmt
	drop        string
	insert      api.Stmt
	update      api.Stmt
	deletion    api.Stmt
	selection   api.Stmt
	batch       []any

	text   string
	number int
)

// treeOf is a statement, that parse's Check knows, in its kind's type.
func treeOf(x api.Stmt) any {
	switch x.Kind {
	case api.CreateTable:
		return createTable(x.Table)
	case api.CreateView:
		return createView(x)
	case api.CreateIndex:
		return createIndex(x)
	case api.Drop:
		return drop(x.Name)
	case api.Insert:
		return insert(x)
	case api.Update:
		return update(x)
	case api.Delete:
		return deletion(x)
	case api.Select:
		return selection(x)
	}
	return batchOf(x.Parts)
}

func batchOf(parts []api.Stmt) batch {
	var all batch
	for _, part := range parts {
		all = append(all, treeOf(part))
	}
	return all
}

// valueOf is a value in its kind's type.
func valueOf(t api.Term) any {
	if t.Type == api.Int {
		return number(t.N)
	}
	return text(t.S)
}
