package lex

import (
	"go/ast"
	"go/importer"
	"go/parser"
	"go/token"
	"go/types"
	"path/filepath"
	"strings"
	"testing"
)

// source is the package's files, but for its tests', with the types of their
// expressions.
func source(t *testing.T) ([]*ast.File, *types.Info) {
	t.Helper()
	names, err := filepath.Glob("*.go")
	if err != nil {
		t.Fatal(err)
	}
	set := token.NewFileSet()
	var files []*ast.File
	for _, name := range names {
		if strings.HasSuffix(name, "_test.go") {
			continue
		}
		f, err := parser.ParseFile(set, name, nil, 0)
		if err != nil {
			t.Fatal(err)
		}
		files = append(files, f)
	}
	info := &types.Info{Types: map[ast.Expr]types.TypeAndValue{}}
	c := types.Config{Importer: importer.ForCompiler(set, "source", nil)}
	if _, err := c.Check("secateur/lex", set, files, info); err != nil {
		t.Fatal(err)
	}
	return files, info
}

// Ways: kinds are numbered by iota.
func TestKindsByIota(t *testing.T) {
	if Word != 0 || Number != 1 || Colon != 2 || End != 3 || Kinds != 4 {
		t.Errorf("the kinds are %d, %d, %d, %d, and %d in all", Word, Number, Colon, End, Kinds)
	}
	files, _ := source(t)
	var found []string
	for _, f := range files {
		for _, d := range f.Decls {
			g, ok := d.(*ast.GenDecl)
			if !ok || g.Tok != token.CONST || !byIota(g.Specs[0].(*ast.ValueSpec)) {
				continue
			}
			for i, s := range g.Specs {
				if v := s.(*ast.ValueSpec); i == 0 || len(v.Values) == 0 {
					found = append(found, v.Names[0].Name)
				}
			}
		}
	}
	if strings.Join(found, " ") != "Word Number Colon End Kinds" {
		t.Errorf("by iota are numbered %v", found)
	}
}

// byIota: is a constant's value iota itself?
func byIota(v *ast.ValueSpec) bool {
	if len(v.Values) != 1 {
		return false
	}
	x, ok := v.Values[0].(*ast.Ident)
	return ok && x.Name == "iota"
}

// Ways: a text is gone through by code points, in the function Lex itself.
func TestRangeOverText(t *testing.T) {
	files, info := source(t)
	found := false
	for _, f := range files {
		for _, d := range f.Decls {
			if x, ok := d.(*ast.FuncDecl); ok && x.Name.Name == "Lex" {
				ast.Inspect(x, func(n ast.Node) bool {
					r, ok := n.(*ast.RangeStmt)
					found = found || ok && r.Value != nil && isText(info.Types[r.X].Type)
					return true
				})
			}
		}
	}
	if !found {
		t.Error("Lex ranges over no text by its code points")
	}
}

func isText(of types.Type) bool {
	b, ok := of.Underlying().(*types.Basic)
	return ok && b.Info()&types.IsString != 0
}
