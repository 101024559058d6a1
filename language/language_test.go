// Package language holds the program's own text against LANGUAGE.md and the map of DOC.md.
package language

import (
	"bytes"
	"go/ast"
	"go/format"
	"go/parser"
	"go/token"
	"os"
	"path/filepath"
	"slices"
	"strconv"
	"strings"
	"testing"
)

const root = ".."

// layers are in the order of the map: one calls those ahead of it alone.
var layers = []string{
	"api", "path", "pack", "crc", "frame", "op", "reply", "disk", "wal", "net", "stat", "tree", "multi", "watch", "snap",
	"sess", "route", "lock", "part", "plan", "coord", "solo", "vec", "rep", "group", "shard", "front", "world", "script",
}

var library = []string{
	"bytes", "cmp", "container/heap", "errors", "iter", "maps", "math", "math/bits", "slices", "sort", "strconv", "strings",
	"sync", "sync/atomic", "unicode", "unicode/utf8",
}

// few tells what alone may be used of a package, rest what may not.
var (
	few  = map[string][]string{"sync": {"Mutex", "RWMutex", "WaitGroup", "Once"}}
	rest = map[string][]string{"iter": {"Pull", "Pull2"}}
)

const longest = 60 // lines of a function

type source struct {
	name, pack string
	text       []byte
	set        *token.FileSet
	tree       *ast.File
}

// sources reads the program's Go files, tests aside.
func sources(t *testing.T) []source {
	t.Helper()
	var out []source
	for _, pack := range folders(t) {
		files, err := filepath.Glob(filepath.Join(root, pack, "*.go"))
		if err != nil {
			t.Fatal(err)
		}
		for _, name := range files {
			if strings.HasSuffix(name, "_test.go") {
				continue
			}
			text, err := os.ReadFile(name)
			if err != nil {
				t.Fatal(err)
			}
			set := token.NewFileSet()
			tree, err := parser.ParseFile(set, name, text, parser.ParseComments)
			if err != nil {
				t.Fatal(err)
			}
			out = append(out, source{name, pack, text, set, tree})
		}
	}
	return out
}

// folders tells the project's, but for those that are laid beside it.
func folders(t *testing.T) []string {
	t.Helper()
	entries, err := os.ReadDir(root)
	if err != nil {
		t.Fatal(err)
	}
	var out []string
	for _, e := range entries {
		if e.IsDir() && !strings.HasPrefix(e.Name(), ".") && e.Name() != "sharedtests" {
			out = append(out, e.Name())
		}
	}
	return out
}

func TestLayersAreThere(t *testing.T) {
	have := folders(t)
	for _, l := range layers {
		if !slices.Contains(have, l) {
			t.Errorf("no package %s", l)
		}
	}
}

func TestFolders(t *testing.T) {
	for _, f := range folders(t) {
		if f == "form" || f == "try" || strings.HasPrefix(f, "aviary") {
			t.Errorf("a folder may not be named %s", f)
		}
		entries, err := os.ReadDir(filepath.Join(root, f))
		if err != nil {
			t.Fatal(err)
		}
		for _, e := range entries {
			if e.IsDir() || !strings.HasSuffix(e.Name(), ".go") {
				t.Errorf("%s/%s: no Go file", f, e.Name())
			}
		}
	}
}

func TestImports(t *testing.T) {
	for _, s := range sources(t) {
		for _, spec := range s.tree.Imports {
			of, err := strconv.Unquote(spec.Path.Value)
			if err != nil {
				t.Fatal(err)
			}
			own, ours := strings.CutPrefix(of, "aviary/")
			if !ours && !slices.Contains(library, of) {
				t.Errorf("%s: imports %s", s.name, of)
			}
			above := slices.Index(layers, s.pack)
			if ours && above >= 0 && slices.Index(layers, own) >= above {
				t.Errorf("%s: imports %s, which is no lower layer", s.name, own)
			}
			if spec.Name != nil && (spec.Name.Name == "." || spec.Name.Name == "_") {
				t.Errorf("%s: imports %s as %s", s.name, of, spec.Name.Name)
			}
		}
	}
}

func TestLibraryNames(t *testing.T) {
	for _, s := range sources(t) {
		ast.Inspect(s.tree, func(n ast.Node) bool {
			sel, ok := n.(*ast.SelectorExpr)
			if !ok {
				return true
			}
			of, ok := sel.X.(*ast.Ident)
			if !ok {
				return true
			}
			only, some := few[of.Name]
			if some && !slices.Contains(only, sel.Sel.Name) || slices.Contains(rest[of.Name], sel.Sel.Name) {
				t.Errorf("%s: %s.%s", s.set.Position(sel.Pos()), of.Name, sel.Sel.Name)
			}
			return true
		})
	}
}

func TestLayout(t *testing.T) {
	for _, s := range sources(t) {
		want, err := format.Source(s.text)
		if err != nil {
			t.Fatal(err)
		}
		if !bytes.Equal(want, s.text) {
			t.Errorf("%s: not gofmt's layout", s.name)
		}
		for _, group := range s.tree.Comments {
			for _, c := range group.List {
				if strings.HasPrefix(c.Text, "//go:") || strings.HasPrefix(c.Text, "// +build") {
					t.Errorf("%s: %s", s.set.Position(c.Pos()), c.Text)
				}
			}
		}
	}
}

func TestFunctionsAreShort(t *testing.T) {
	for _, s := range sources(t) {
		for _, d := range s.tree.Decls {
			f, ok := d.(*ast.FuncDecl)
			if !ok {
				continue
			}
			if lines := s.set.Position(f.End()).Line - s.set.Position(f.Pos()).Line + 1; lines > longest {
				t.Errorf("%s: %s has %d lines", s.name, f.Name.Name, lines)
			}
		}
	}
}

func TestPackageLevelVariables(t *testing.T) {
	for _, s := range sources(t) {
		for _, d := range s.tree.Decls {
			g, ok := d.(*ast.GenDecl)
			if !ok || g.Tok != token.VAR {
				continue
			}
			for _, spec := range g.Specs {
				v := spec.(*ast.ValueSpec)
				if len(v.Values) != len(v.Names) {
					t.Errorf("%s: a variable without a value of its own", s.set.Position(v.Pos()))
				}
				for _, value := range v.Values {
					if bad := badStart(value); bad != "" {
						t.Errorf("%s: a variable that starts with %s", s.set.Position(v.Pos()), bad)
					}
				}
			}
		}
	}
}

// badStart tells what a variable at package level may not start with.
func badStart(e ast.Expr) string {
	switch x := e.(type) {
	case *ast.FuncLit:
		return "a function"
	case *ast.UnaryExpr:
		if x.Op == token.AND {
			return "a pointer"
		}
	case *ast.BasicLit:
		if x.Kind == token.STRING {
			return "a text: make it a constant"
		}
		if x.Kind == token.FLOAT {
			return "a float"
		}
	case *ast.CompositeLit:
		if _, ok := x.Type.(*ast.MapType); ok {
			return "a map"
		}
	case *ast.CallExpr:
		if sel, ok := x.Fun.(*ast.SelectorExpr); ok && sel.Sel.Name == "New" {
			if of, ok := sel.X.(*ast.Ident); ok && of.Name == "errors" {
				return ""
			}
		}
		return "a call"
	}
	return ""
}
