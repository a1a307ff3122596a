package show

import (
	"go/ast"
	"go/parser"
	"go/token"
	"path/filepath"
	"reflect"
	"slices"
	"strings"
	"testing"
)

// written are, by each function of the package but for its tests', the methods
// that it calls by whose names texts are built.
func written(t *testing.T) map[string][]string {
	t.Helper()
	names, err := filepath.Glob("*.go")
	if err != nil {
		t.Fatal(err)
	}
	by := map[string][]string{}
	for _, name := range names {
		if strings.HasSuffix(name, "_test.go") {
			continue
		}
		f, err := parser.ParseFile(token.NewFileSet(), name, nil, 0)
		if err != nil {
			t.Fatal(err)
		}
		for _, d := range f.Decls {
			if x, ok := d.(*ast.FuncDecl); ok {
				by[x.Name.Name] = writes(x)
			}
		}
	}
	return by
}

// writes are those methods that a function calls of its own receiver, and of
// anything else with a ? ahead.
func writes(f *ast.FuncDecl) []string {
	var l []string
	ast.Inspect(f, func(n ast.Node) bool {
		s, ok := n.(*ast.SelectorExpr)
		if !ok || !strings.HasPrefix(s.Sel.Name, "Write") {
			return true
		}
		of, ok := s.X.(*ast.Ident)
		if ok && f.Recv != nil && of.Name == f.Recv.List[0].Names[0].Name {
			l = append(l, s.Sel.Name)
		} else {
			l = append(l, "?"+s.Sel.Name)
		}
		return true
	})
	return l
}

// Ways: a page embeds what texts are built by, whose methods are promoted: the
// page has none of its own by these names, and is written by them alone.
func TestPageEmbedsABuilder(t *testing.T) {
	of := reflect.TypeFor[page]()
	if f, ok := of.FieldByName("Builder"); !ok || !f.Anonymous || f.Type != reflect.TypeFor[strings.Builder]() || of.NumField() != 1 {
		t.Errorf("a page embeds %v", f)
	}
	by := written(t)
	for _, name := range []string{"WriteString", "WriteByte", "Len", "String"} {
		if _, ok := by[name]; ok {
			t.Errorf("the package has its own %s", name)
		}
	}
	for name, l := range by {
		if name != "line" && len(l) > 0 {
			t.Errorf("%s writes by %v, not by lines", name, l)
		}
	}
	if l := by["line"]; !slices.Contains(l, "WriteString") || slices.ContainsFunc(l, func(s string) bool { return s[0] == '?' }) {
		t.Errorf("a line is written by %v", l)
	}
}

// Ways: a line's numbers come in through a variadic function.
func TestLineIsVariadic(t *testing.T) {
	if f := reflect.TypeOf((*page).line); !f.IsVariadic() || f.In(f.NumIn()-1) != reflect.TypeFor[[]int64]() {
		t.Errorf("a line is written by a %v", f)
	}
	var p page
	p.line("a")
	p.line("b:", 1)
	p.line("c 3", -5, 0, 7)
	p.line("d", []int64{1, 2}...)
	if got, want := p.String(), "a\nb: 1\nc 3 -5 0 7\nd 1 2\n"; got != want || p.Len() != len(want) {
		t.Errorf("the lines are %q, want %q", got, want)
	}
}
