package parse

import (
	"go/ast"
	"go/parser"
	"go/token"
	"path/filepath"
	"strings"
	"testing"

	"secateur/lex"
)

// source is the package's functions, but for its tests'.
func source(t *testing.T) []*ast.FuncDecl {
	t.Helper()
	files, err := filepath.Glob("*.go")
	if err != nil {
		t.Fatal(err)
	}
	var all []*ast.FuncDecl
	for _, name := range files {
		if strings.HasSuffix(name, "_test.go") {
			continue
		}
		f, err := parser.ParseFile(token.NewFileSet(), name, nil, 0)
		if err != nil {
			t.Fatal(err)
		}
		for _, d := range f.Decls {
			if x, ok := d.(*ast.FuncDecl); ok {
				all = append(all, x)
			}
		}
	}
	return all
}

// calls are how often a function is called in what stands below a node.
func calls(n ast.Node, name string) int {
	count := 0
	ast.Inspect(n, func(n ast.Node) bool {
		if c, ok := n.(*ast.CallExpr); ok {
			if f, ok := c.Fun.(*ast.Ident); ok && f.Name == name {
				count++
			}
		}
		return true
	})
	return count
}

// deferred are the closures that a function defers.
func deferred(f *ast.FuncDecl) []*ast.FuncLit {
	var l []*ast.FuncLit
	ast.Inspect(f, func(n ast.Node) bool {
		if d, ok := n.(*ast.DeferStmt); ok {
			if c, ok := d.Call.Fun.(*ast.FuncLit); ok {
				l = append(l, c)
			}
		}
		return true
	})
	return l
}

// asserted are the types that are asserted below a node.
func asserted(n ast.Node) []string {
	var l []string
	ast.Inspect(n, func(n ast.Node) bool {
		if a, ok := n.(*ast.TypeAssertExpr); ok {
			if of, ok := a.Type.(*ast.Ident); ok {
				l = append(l, of.Name)
			}
		}
		return true
	})
	return l
}

// Ways: a fault is told by a panic; just one function, which Parse calls,
// recovers, in a closure that it defers and that takes the fault by an
// assertion.
func TestFaultsByPanics(t *testing.T) {
	panics, recovers, taken := 0, 0, 0
	for _, f := range source(t) {
		panics += calls(f, "panic")
		recovers += calls(f, "recover")
		for _, c := range deferred(f) {
			if l := asserted(c); f.Name.Name == "read" && calls(c, "recover") == 1 && len(l) == 1 && l[0] == "fault" {
				taken++
			}
		}
		if f.Name.Name == "Parse" && calls(f, "read") == 0 {
			t.Error("Parse doesn't call what recovers")
		}
	}
	if panics == 0 || recovers != 1 || taken != 1 {
		t.Errorf("there are %d panics, %d recovers, %d that take a fault by an assertion in a deferred closure", panics, recovers, taken)
	}
}

// Ways: what is no fault of a text panics on. No text makes such a panic: a
// list of tokens without the End does.
func TestAllElsePanicsOn(t *testing.T) {
	for _, l := range [][]lex.Token{nil, {{Kind: lex.Word, Text: "knapsack"}}} {
		func() {
			defer func() {
				if recover() == nil {
					t.Errorf("%v were read without a panic", l)
				}
			}()
			read(l)
		}()
	}
}
