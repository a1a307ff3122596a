package deheap

import (
	"go/ast"
	"go/parser"
	"go/token"
	"path/filepath"
	"strings"
	"testing"
)

// source is the package's declarations, but for its tests'.
func source(t *testing.T) []ast.Decl {
	t.Helper()
	files, err := filepath.Glob("*.go")
	if err != nil {
		t.Fatal(err)
	}
	var all []ast.Decl
	for _, name := range files {
		if strings.HasSuffix(name, "_test.go") {
			continue
		}
		f, err := parser.ParseFile(token.NewFileSet(), name, nil, 0)
		if err != nil {
			t.Fatal(err)
		}
		all = append(all, f.Decls...)
	}
	return all
}

// function is the one of that name; nil, if there is none.
func function(all []ast.Decl, name string) *ast.FuncDecl {
	for _, d := range all {
		if f, ok := d.(*ast.FuncDecl); ok && f.Name.Name == name {
			return f
		}
	}
	return nil
}

// specs are the package's types, or its groups of constants.
func specs(all []ast.Decl, of token.Token) [][]ast.Spec {
	var groups [][]ast.Spec
	for _, d := range all {
		if g, ok := d.(*ast.GenDecl); ok && g.Tok == of {
			groups = append(groups, g.Specs)
		}
	}
	return groups
}

// interfaceNamed is the interface type of that name; nil, if there is none.
func interfaceNamed(all []ast.Decl, name string) *ast.InterfaceType {
	for _, group := range specs(all, token.TYPE) {
		for _, s := range group {
			if x := s.(*ast.TypeSpec); x.Name.Name == name {
				i, _ := x.Type.(*ast.InterfaceType)
				return i
			}
		}
	}
	return nil
}

// has: does something in f fit?
func has(f *ast.FuncDecl, fits func(ast.Node) bool) bool {
	found := false
	if f != nil {
		ast.Inspect(f, func(n ast.Node) bool {
			found = found || n != nil && fits(n)
			return !found
		})
	}
	return found
}

// names: is n a selector of x's part of that name?
func names(n ast.Node, x, part string) bool {
	s, ok := n.(*ast.SelectorExpr)
	if !ok || s.Sel.Name != part {
		return false
	}
	switch y := s.X.(type) {
	case *ast.Ident:
		return y.Name == x
	case *ast.SelectorExpr:
		return y.Sel.Name == x
	}
	return false
}

// Ways: kinds are numbered by iota.
func TestKindsByIota(t *testing.T) {
	if MinMax != 0 || Interval != 1 || Kinds != 2 {
		t.Errorf("the kinds are %d and %d, and %d in all", MinMax, Interval, Kinds)
	}
	var found []string
	for _, group := range specs(source(t), token.CONST) {
		first := group[0].(*ast.ValueSpec)
		if len(first.Values) != 1 {
			continue
		}
		if x, ok := first.Values[0].(*ast.Ident); !ok || x.Name != "iota" {
			continue
		}
		for i, s := range group {
			if v := s.(*ast.ValueSpec); i == 0 || len(v.Values) == 0 {
				found = append(found, v.Names[0].Name)
			}
		}
	}
	if strings.Join(found, " ") != "MinMax Interval Kinds" {
		t.Errorf("by iota are numbered %v", found)
	}
}

// Ways: what both kinds can do is an interface, which is called.
func TestInterface(t *testing.T) {
	all := source(t)
	i := interfaceNamed(all, "ends")
	if i == nil || len(i.Methods.List) == 0 {
		t.Fatal("ends is no interface with methods")
	}
	for k := range Kinds {
		if e := build(k, nil); kindOf(e) != k {
			t.Errorf("what is built for the kind %d is of the kind %d", k, kindOf(e))
		}
	}
	for in, part := range map[string]string{"Len": "Len", "Push": "Push", "Sorted": "List"} {
		if !has(function(all, in), func(n ast.Node) bool {
			call, ok := n.(*ast.CallExpr)
			return ok && names(call.Fun, "held", part)
		}) {
			t.Errorf("%s doesn't call the interface's %s", in, part)
		}
	}
}

// Ways: which one a heap is tells a two-valued assertion.
func TestAssertion(t *testing.T) {
	if !has(function(source(t), "kindOf"), func(n ast.Node) bool {
		x, ok := n.(*ast.AssignStmt)
		if !ok || len(x.Lhs) != 2 || len(x.Rhs) != 1 {
			return false
		}
		a, ok := x.Rhs[0].(*ast.TypeAssertExpr)
		return ok && a.Type != nil
	}) {
		t.Error("kindOf tells by no two-valued assertion")
	}
}

// Ways: what is asked of both is a method expression.
func TestMethodExpressions(t *testing.T) {
	all := source(t)
	for _, name := range []string{"Min", "Max", "PopMin", "PopMax"} {
		if !has(function(all, name), func(n ast.Node) bool {
			call, ok := n.(*ast.CallExpr)
			return ok && len(call.Args) == 1 && names(call.Args[0], "ends", name)
		}) {
			t.Errorf("%s asks by no method expression", name)
		}
	}
}
