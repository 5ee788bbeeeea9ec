package rules

import (
	"bytes"
	"go/ast"
	"go/format"
	"go/parser"
	"go/token"
	"os"
	"path/filepath"
	"slices"
	"strconv"
	"strings"
	"testing"
)

const root = ".."

// The layers, from the lowest on.
var layers = []string{"api", "span", "sight", "transit", "ball", "gun", "rate", "flag", "night", "ledger", "station"}

var library = []string{
	"bytes", "cmp", "container/heap", "errors", "iter", "maps", "math", "math/bits", "slices", "sort", "strconv", "strings", "sync", "sync/atomic", "unicode", "unicode/utf8",
}

// source is a Go file of the program (not of its tests).
type source struct {
	path, folder string
	text         []byte
	set          *token.FileSet
	file         *ast.File
}

// folders are the program's package folders. What .ci/run lays beside the program is not a part of it.
func folders(t *testing.T) []string {
	t.Helper()
	entries, err := os.ReadDir(root)
	if err != nil {
		t.Fatal(err)
	}
	var l []string
	for _, e := range entries {
		if e.IsDir() && !strings.HasPrefix(e.Name(), ".") && e.Name() != "sharedtests" {
			l = append(l, e.Name())
		}
	}
	return l
}

func sources(t *testing.T) []source {
	t.Helper()
	var l []source
	for _, folder := range folders(t) {
		paths, err := filepath.Glob(filepath.Join(root, folder, "*.go"))
		if err != nil {
			t.Fatal(err)
		}
		for _, path := range paths {
			if !strings.HasSuffix(path, "_test.go") {
				l = append(l, read(t, folder, path))
			}
		}
	}
	return l
}

func read(t *testing.T, folder, path string) source {
	t.Helper()
	text, err := os.ReadFile(path)
	if err != nil {
		t.Fatal(err)
	}
	set := token.NewFileSet()
	file, err := parser.ParseFile(set, path, text, parser.ParseComments)
	if err != nil {
		t.Fatal(err)
	}
	return source{path, folder, text, set, file}
}

func imports(s source) []string {
	var l []string
	for _, i := range s.file.Imports {
		path, _ := strconv.Unquote(i.Path.Value)
		l = append(l, path)
	}
	return l
}

func TestEveryLayerIsThere(t *testing.T) {
	there := folders(t)
	for _, layer := range layers {
		if !slices.Contains(there, layer) {
			t.Error("no package", layer)
		}
	}
	for _, folder := range there {
		if folder == "form" || folder == "try" || strings.HasPrefix(folder, "noongun") {
			t.Error("a folder's name", folder)
		}
	}
}

func TestOnlyGoFiles(t *testing.T) {
	for _, folder := range folders(t) {
		entries, err := os.ReadDir(filepath.Join(root, folder))
		if err != nil {
			t.Fatal(err)
		}
		for _, e := range entries {
			if e.IsDir() || !strings.HasSuffix(e.Name(), ".go") {
				t.Error(folder, e.Name())
			}
		}
	}
}

func TestModule(t *testing.T) {
	text, err := os.ReadFile(filepath.Join(root, "go.mod"))
	if err != nil || string(text) != "module noongun\n\ngo 1.27\n" {
		t.Errorf("go.mod: %q, %v", text, err)
	}
}

func TestImports(t *testing.T) {
	for _, s := range sources(t) {
		for _, path := range imports(s) {
			own, ours := strings.CutPrefix(path, "noongun/")
			if !ours && !slices.Contains(library, path) {
				t.Error(s.path, "imports", path)
			}
			if ours && !mayImport(s.folder, own) {
				t.Error("not a layer that it calls:", s.path, own)
			}
		}
	}
}

// mayImport reports whether the document lists a layer among those that another one calls.
func mayImport(layer, other string) bool {
	switch layer {
	case "api":
		return false
	case "span", "ball", "flag", "night":
		return other == "api"
	case "sight", "transit", "gun", "rate", "ledger":
		return other == "api" || other == "span"
	}
	return true
}

func TestUsesOfTheLibrary(t *testing.T) {
	refused := map[string][]string{"iter": {"Pull", "Pull2"}}
	allowed := map[string][]string{"sync": {"Mutex", "RWMutex", "WaitGroup", "Once"}}
	for _, s := range sources(t) {
		ast.Inspect(s.file, func(n ast.Node) bool {
			x, ok := n.(*ast.SelectorExpr)
			if !ok {
				return true
			}
			of, ok := x.X.(*ast.Ident)
			if !ok || !slices.Contains(imports(s), of.Name) {
				return true
			}
			if slices.Contains(refused[of.Name], x.Sel.Name) || allowed[of.Name] != nil && !slices.Contains(allowed[of.Name], x.Sel.Name) {
				t.Error(s.set.Position(x.Pos()), of.Name, x.Sel.Name)
			}
			return true
		})
	}
}

func TestComments(t *testing.T) {
	for _, s := range sources(t) {
		for _, group := range s.file.Comments {
			for _, c := range group.List {
				if strings.HasPrefix(c.Text, "//go:") || strings.HasPrefix(c.Text, "// +build") || strings.HasPrefix(c.Text, "//export") {
					t.Error(s.path, c.Text)
				}
			}
		}
	}
}

func TestLayout(t *testing.T) {
	for _, s := range sources(t) {
		if laid, err := format.Source(s.text); err != nil || !bytes.Equal(laid, s.text) {
			t.Error(s.path, "is not laid out as gofmt does", err)
		}
	}
}

func TestFunctionsAreShort(t *testing.T) {
	for _, s := range sources(t) {
		for _, d := range s.file.Decls {
			if f, ok := d.(*ast.FuncDecl); ok {
				if lines := s.set.Position(f.End()).Line - s.set.Position(f.Pos()).Line + 1; lines > 60 {
					t.Error(s.path, f.Name.Name, lines)
				}
			}
		}
	}
}

func TestNothingIsPrinted(t *testing.T) {
	for _, s := range sources(t) {
		ast.Inspect(s.file, func(n ast.Node) bool {
			if c, ok := n.(*ast.CallExpr); ok {
				if f, ok := c.Fun.(*ast.Ident); ok && (f.Name == "print" || f.Name == "println") {
					t.Error(s.set.Position(c.Pos()), f.Name)
				}
			}
			return true
		})
	}
}

func TestPackageLevel(t *testing.T) {
	for _, s := range sources(t) {
		for _, d := range s.file.Decls {
			g, ok := d.(*ast.GenDecl)
			if !ok || g.Tok != token.VAR {
				continue
			}
			for _, spec := range g.Specs {
				v := spec.(*ast.ValueSpec)
				if len(v.Values) != len(v.Names) {
					t.Error(s.set.Position(v.Pos()), "no initial value")
				}
				for _, value := range v.Values {
					checkTable(t, s, value)
				}
			}
		}
	}
}

// checkTable reports what no table of the package level may contain.
func checkTable(t *testing.T, s source, value ast.Expr) {
	t.Helper()
	if isNewError(value) {
		return
	}
	items := 0
	ast.Inspect(value, func(n ast.Node) bool {
		switch x := n.(type) {
		case *ast.CallExpr, *ast.FuncLit, *ast.MapType, *ast.StarExpr:
			t.Error(s.set.Position(n.Pos()), "is no table's value")
		case *ast.UnaryExpr:
			if x.Op == token.AND {
				t.Error(s.set.Position(n.Pos()), "is an address")
			}
		case *ast.BasicLit:
			items++
			if x.Kind == token.FLOAT || x.Kind == token.IMAG {
				t.Error(s.set.Position(n.Pos()), "is no whole number")
			}
		}
		return true
	})
	if _, text := value.(*ast.BasicLit); text {
		t.Error(s.set.Position(value.Pos()), "should be a constant")
	}
	if items > 250 {
		t.Error(s.set.Position(value.Pos()), "is too long a table:", items)
	}
}

func isNewError(value ast.Expr) bool {
	call, ok := value.(*ast.CallExpr)
	if !ok {
		return false
	}
	f, ok := call.Fun.(*ast.SelectorExpr)
	if !ok || f.Sel.Name != "New" {
		return false
	}
	of, ok := f.X.(*ast.Ident)
	return ok && of.Name == "errors"
}
