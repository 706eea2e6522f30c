package pack

import (
	"go/ast"
	"go/parser"
	"go/token"
	"path/filepath"
	"slices"
	"strings"
	"testing"
)

// P9.3: Go orders the calls in an expression among one another, but no call against the reading of a field that it may set. No answer shows an order that the compiler does not choose: so the expressions themselves are looked at.

// worked are a statement's expressions that are worked out together.
func worked(n ast.Node) []ast.Expr {
	switch x := n.(type) {
	case *ast.AssignStmt:
		list := slices.Clone(x.Rhs)
		for _, left := range x.Lhs {
			_, indexed := left.(*ast.IndexExpr)
			if indexed || x.Tok != token.ASSIGN && x.Tok != token.DEFINE { // else it is not read
				list = append(list, left)
			}
		}
		return list
	case *ast.ReturnStmt:
		return x.Results
	case *ast.ValueSpec:
		return x.Values
	case *ast.CaseClause:
		return x.List
	case *ast.ExprStmt:
		return []ast.Expr{x.X}
	case *ast.RangeStmt:
		return []ast.Expr{x.X}
	case *ast.IfStmt:
		return []ast.Expr{x.Cond}
	case *ast.ForStmt:
		return []ast.Expr{x.Cond}
	case *ast.SwitchStmt:
		return []ast.Expr{x.Tag}
	}
	return nil
}

// mixed is a variable of which some expressions read a field, and which they hand to a call, too; empty, if there is none.
func mixed(list []ast.Expr) string {
	handed, read := make(map[string]int), make(map[string]int)
	asked := make(map[ast.Node]int)
	hand := func(e ast.Expr) {
		if to, ok := e.(*ast.UnaryExpr); ok {
			e = to.X
		}
		if name, ok := e.(*ast.Ident); ok {
			handed[name.Name]++
		}
	}
	look := func(n ast.Node) bool {
		switch x := n.(type) {
		case *ast.CallExpr:
			if method, ok := x.Fun.(*ast.SelectorExpr); ok {
				asked[method]++
				hand(method.X)
			}
			for _, e := range x.Args {
				hand(e)
			}
		case *ast.SelectorExpr:
			if name, ok := x.X.(*ast.Ident); ok && asked[x] == 0 {
				read[name.Name]++
			}
		}
		return true
	}
	for _, e := range list {
		if e != nil {
			ast.Inspect(e, look)
		}
	}
	for name := range read {
		if handed[name] > 0 {
			return name
		}
	}
	return ""
}

func TestMixed(t *testing.T) {
	for s, want := range map[string]string{
		"reader{b: r.bytes(), e: r.e}":       "r",
		"reader{e: r.e, b: r.bytes()}":       "r",
		"r.at + r.count()":                   "r",
		"f(r.e, ask(r))":                     "r",
		"f(ask(&r), r.e)":                    "r",
		"reader{b: b, e: r.e}":               "",
		"api.Col{Name: r.text(), Cell: c()}": "",
		"order.GetNum(r.b, r.at)":            "",
		"getList(r, (*reader).col)":          "",
	} {
		e, err := parser.ParseExpr(s)
		if err != nil {
			t.Fatal(err)
		}
		if got := mixed([]ast.Expr{e}); got != want {
			t.Errorf("%s: %q", s, got)
		}
	}
}

func TestNoFieldIsReadBesideACall(t *testing.T) {
	names, err := filepath.Glob("*.go")
	if err != nil || len(names) == 0 {
		t.Fatal(names, err)
	}
	files := token.NewFileSet()
	for _, name := range names {
		if strings.HasSuffix(name, "_test.go") {
			continue
		}
		f, err := parser.ParseFile(files, name, nil, 0)
		if err != nil {
			t.Fatal(err)
		}
		ast.Inspect(f, func(n ast.Node) bool {
			if x := mixed(worked(n)); x != "" {
				t.Errorf("%s: a field of %s is read beside a call that may set it", files.Position(n.Pos()), x)
			}
			return true
		})
	}
}
