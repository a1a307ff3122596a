package bitset

import (
	"go/ast"
	"go/parser"
	"go/token"
	"path/filepath"
	"strings"
	"testing"
)

// functions are those of the package, but for its tests, by their names.
func functions(t *testing.T) map[string]*ast.FuncDecl {
	t.Helper()
	files, err := filepath.Glob("*.go")
	if err != nil {
		t.Fatal(err)
	}
	all := map[string]*ast.FuncDecl{}
	for _, name := range files {
		if strings.HasSuffix(name, "_test.go") {
			continue
		}
		f, err := parser.ParseFile(token.NewFileSet(), name, nil, 0)
		if err != nil {
			t.Fatal(err)
		}
		for _, d := range f.Decls {
			if x, ok := d.(*ast.FuncDecl); ok {
				all[x.Name.Name] = x
			}
		}
	}
	return all
}

// calledName is the name of what a call calls.
func calledName(e ast.Expr) string {
	call, ok := e.(*ast.CallExpr)
	if !ok {
		return ""
	}
	switch f := call.Fun.(type) {
	case *ast.Ident:
		return f.Name
	case *ast.SelectorExpr:
		return f.Sel.Name
	}
	return ""
}

// handsClosure: is a function literal handed to a call of that name?
func handsClosure(f *ast.FuncDecl, to string) bool {
	found := false
	ast.Inspect(f, func(n ast.Node) bool {
		call, ok := n.(*ast.CallExpr)
		if !ok || calledName(call) != to {
			return true
		}
		for _, arg := range call.Args {
			if _, ok := arg.(*ast.FuncLit); ok {
				found = true
			}
		}
		return true
	})
	return found
}

// rangesOver: does it range over what a call of that name answers?
func rangesOver(f *ast.FuncDecl, called string) bool {
	found := false
	ast.Inspect(f, func(n ast.Node) bool {
		if r, ok := n.(*ast.RangeStmt); ok && calledName(r.X) == called {
			found = true
		}
		return true
	})
	return found
}

// Ways: what two sets are joined by is told by a closure; words are gone
// through backward by a range over a function.
func TestWays(t *testing.T) {
	all := functions(t)
	for _, name := range []string{"Or", "And", "Less", "Xor"} {
		if f := all[name]; f == nil || !handsClosure(f, "join") {
			t.Errorf("%s doesn't tell by a closure what two sets are joined by", name)
		}
	}
	for _, name := range []string{"Last", "Compare"} {
		if f := all[name]; f == nil || !rangesOver(f, "backward") {
			t.Errorf("%s doesn't go through words by a range over backward", name)
		}
	}
}

func TestBackward(t *testing.T) {
	s := of(t, 130, 1, 64, 129)
	var at []int
	var words []uint64
	for k, w := range s.backward(4) {
		at, words = append(at, k), append(words, w)
	}
	for n, want := range []uint64{0, 2, 1, 2} {
		if len(words) != 4 || at[n] != 3-n || words[n] != want {
			t.Fatalf("backward goes through %v with %v", at, words)
		}
	}
	for k := range s.backward(3) {
		if k != 2 {
			t.Errorf("gone on to %d after it was broken off", k)
		}
		break
	}
}
