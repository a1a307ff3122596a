package inst

import (
	"go/ast"
	"go/parser"
	"go/token"
	"path/filepath"
	"strings"
	"testing"
)

// source is the package's declarations, but for its tests'.
func source(t *testing.T) []ast.Decl {
	t.Helper()
	files, err := filepath.Glob("*.go")
	if err != nil {
		t.Fatal(err)
	}
	var all []ast.Decl
	for _, name := range files {
		if strings.HasSuffix(name, "_test.go") {
			continue
		}
		f, err := parser.ParseFile(token.NewFileSet(), name, nil, 0)
		if err != nil {
			t.Fatal(err)
		}
		all = append(all, f.Decls...)
	}
	return all
}

// groups are the package's declarations of constants, or of variables.
func groups(t *testing.T, of token.Token) [][]ast.Spec {
	t.Helper()
	var l [][]ast.Spec
	for _, d := range source(t) {
		if g, ok := d.(*ast.GenDecl); ok && g.Tok == of {
			l = append(l, g.Specs)
		}
	}
	return l
}

// Ways: kinds are numbered by iota.
func TestKindsByIota(t *testing.T) {
	if Knapsack != 0 || Assignment != 1 || Tsp != 2 || Cover != 3 || Kinds != 4 {
		t.Errorf("the kinds are %d, %d, %d, %d, and %d in all", Knapsack, Assignment, Tsp, Cover, Kinds)
	}
	var found []string
	for _, group := range groups(t, token.CONST) {
		first := group[0].(*ast.ValueSpec)
		if len(first.Values) != 1 || !isNamed(first.Values[0], "iota") {
			continue
		}
		for i, s := range group {
			if v := s.(*ast.ValueSpec); i == 0 || len(v.Values) == 0 {
				found = append(found, v.Names[0].Name)
			}
		}
	}
	if strings.Join(found, " ") != "Knapsack Assignment Tsp Cover Kinds" {
		t.Errorf("by iota are numbered %v", found)
	}
}

func isNamed(x ast.Expr, name string) bool {
	i, ok := x.(*ast.Ident)
	return ok && i.Name == name
}

// Ways: the kinds' words stand in a table at package level, by their kinds,
// which Name reads.
func TestWordsInATable(t *testing.T) {
	for _, group := range groups(t, token.VAR) {
		for _, s := range group {
			v := s.(*ast.ValueSpec)
			if l, ok := v.Values[0].(*ast.CompositeLit); ok && wordsByKinds(l) && isReadByName(t, v.Names[0].Name) {
				return
			}
		}
	}
	t.Error("no table has the kinds' words, which Name reads")
}

// wordsByKinds: does a literal have each kind's word at it, and no more?
func wordsByKinds(l *ast.CompositeLit) bool {
	want := map[string]string{"Knapsack": `"knapsack"`, "Assignment": `"assignment"`, "Tsp": `"tsp"`, "Cover": `"cover"`}
	for _, x := range l.Elts {
		pair, ok := x.(*ast.KeyValueExpr)
		if !ok {
			return false
		}
		kind, isKind := pair.Key.(*ast.Ident)
		word, isWord := pair.Value.(*ast.BasicLit)
		if !isKind || !isWord || want[kind.Name] != word.Value {
			return false
		}
		delete(want, kind.Name)
	}
	return len(want) == 0
}

func isReadByName(t *testing.T, table string) bool {
	t.Helper()
	found := false
	for _, d := range source(t) {
		if f, ok := d.(*ast.FuncDecl); ok && f.Name.Name == "Name" {
			ast.Inspect(f, func(n ast.Node) bool {
				x, ok := n.(*ast.IndexExpr)
				found = found || ok && isNamed(x.X, table)
				return true
			})
		}
	}
	return found
}
