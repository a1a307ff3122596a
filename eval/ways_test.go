package eval

import (
	"go/ast"
	"go/importer"
	"go/parser"
	"go/token"
	"go/types"
	"testing"
)

// Ways: signs are gone through by a range over a function, in Parse itself, and
// a number is made of what it tells.
func TestSignsByARangeOverAFunction(t *testing.T) {
	set := token.NewFileSet()
	var files []*ast.File
	for _, name := range []string{"eval.go", "answer.go", "signs.go"} {
		f, err := parser.ParseFile(set, name, nil, 0)
		if err != nil {
			t.Fatal(err)
		}
		files = append(files, f)
	}
	info := &types.Info{Types: map[ast.Expr]types.TypeAndValue{}}
	c := types.Config{Importer: importer.ForCompiler(set, "source", nil)}
	if _, err := c.Check("secateur/eval", set, files, info); err != nil {
		t.Fatal(err)
	}
	found := false
	for _, d := range files[len(files)-1].Decls {
		if f, ok := d.(*ast.FuncDecl); ok && f.Name.Name == "Parse" {
			ast.Inspect(f, func(n ast.Node) bool {
				if r, ok := n.(*ast.RangeStmt); ok {
					_, over := info.Types[r.X].Type.Underlying().(*types.Signature)
					found = found || over && reads(r.Body, r.Key.(*ast.Ident).Name)
				}
				return true
			})
		}
	}
	if !found {
		t.Error("Parse has no range over a function that tells signs")
	}
}

// reads: is something called with a variable of that name?
func reads(body ast.Node, name string) bool {
	found := false
	ast.Inspect(body, func(n ast.Node) bool {
		if c, ok := n.(*ast.CallExpr); ok {
			for _, a := range c.Args {
				x, ok := a.(*ast.Ident)
				found = found || ok && x.Name == name
			}
		}
		return true
	})
	return found
}
