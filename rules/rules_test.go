// Package rules holds the program's files against the rules of its language, as far as the text alone shows them.
package rules

import (
	"bytes"
	"go/ast"
	"go/format"
	"go/parser"
	"go/token"
	"os"
	"path/filepath"
	"slices"
	"strconv"
	"strings"
	"testing"
)

const (
	library  = "bytes cmp container/heap errors iter maps math math/bits slices sort strconv strings sync sync/atomic unicode unicode/utf8"
	syncHas  = "Mutex RWMutex WaitGroup Once"
	mostRows = 60 // of a function
)

// layers are the given packages, each with those that it may call beside api.
func layers() map[string]string {
	return map[string]string{
		"api": "", "win": "", "src": "", "sums": "", "regions": "", "bits": "", "huff": "bits",
		"inflate": "bits huff", "match": "", "deflate": "bits huff match", "zlib": "win sums inflate deflate",
		"exp": "", "desc": "exp", "check": "win exp", "parse": "win sums regions exp check",
		"layout": "win sums exp check", "lazy": "win src exp check parse", "png": "win sums zlib",
		"tar": "sums", "wav": "win", "elf": "win", "zip": "win sums regions inflate deflate",
		"sfnt": "win sums regions", "kit": "desc parse layout", "whole": "png tar wav elf zip sfnt",
	}
}

// file is one of the program's, without those of tests.
type file struct {
	name string
	pack string
	text []byte
	tree *ast.File
	set  *token.FileSet
}

func (f file) row(p token.Pos) string { return f.name + ":" + strconv.Itoa(f.set.Position(p).Line) }

func goFiles(t *testing.T, pack string) []file {
	t.Helper()
	all, err := os.ReadDir(filepath.Join("..", pack))
	if err != nil {
		t.Fatal(err)
	}
	var l []file
	for _, a := range all {
		if strings.HasSuffix(a.Name(), "_test.go") {
			continue
		}
		if a.IsDir() || !strings.HasSuffix(a.Name(), ".go") {
			t.Errorf("%s/%s: not a Go file", pack, a.Name())
			continue
		}
		f := file{name: pack + "/" + a.Name(), pack: pack, set: token.NewFileSet()}
		f.text, err = os.ReadFile(filepath.Join("..", f.name))
		if err != nil {
			t.Fatal(err)
		}
		f.tree, err = parser.ParseFile(f.set, f.name, f.text, parser.ParseComments)
		if err != nil {
			t.Fatal(err)
		}
		l = append(l, f)
	}
	return l
}

// program is all folders but those of tests and those whose names begin with a dot.
func program(t *testing.T) []file {
	t.Helper()
	all, err := os.ReadDir("..")
	if err != nil {
		t.Fatal(err)
	}
	var l []file
	for _, a := range all {
		if a.IsDir() && !strings.HasPrefix(a.Name(), ".") && a.Name() != "sharedtests" {
			l = append(l, goFiles(t, a.Name())...)
		}
	}
	return l
}

func has(words string, word string) bool { return slices.Contains(strings.Fields(words), word) }

func TestPackages(t *testing.T) {
	given := layers()
	seen := map[string]bool{}
	for _, f := range program(t) {
		seen[f.pack] = true
		if f.tree.Name.Name != f.pack {
			t.Errorf("%s: package %s", f.name, f.tree.Name.Name)
		}
		if f.pack == "form" || f.pack == "try" || strings.HasPrefix(f.pack, "mortise") {
			t.Errorf("%s: a folder may not have this name", f.name)
		}
	}
	for pack := range given {
		if !seen[pack] {
			t.Errorf("%s: missing", pack)
		}
	}
}

func TestImports(t *testing.T) {
	given := layers()
	for _, f := range program(t) {
		for _, x := range f.tree.Imports {
			path, _ := strconv.Unquote(x.Path.Value)
			own, ours := strings.CutPrefix(path, "mortise/")
			calls, layer := given[f.pack]
			if !ours && !has(library, path) || x.Name != nil && (x.Name.Name == "_" || x.Name.Name == ".") {
				t.Errorf("%s: %s is outside the language", f.row(x.Pos()), path)
			}
			// A package that is no layer may stand between layers.
			_, other := given[own]
			if ours && layer && other && own != "api" && !has(calls, own) {
				t.Errorf("%s: %s may not call %s", f.row(x.Pos()), f.pack, own)
			}
		}
		ast.Inspect(f.tree, func(n ast.Node) bool {
			if bad := outside(n); bad != "" {
				t.Errorf("%s: %s is outside the language", f.row(n.Pos()), bad)
			}
			return true
		})
	}
}

// outside tells what a word asks for that the language leaves out, though its package is in.
func outside(n ast.Node) string {
	switch x := n.(type) {
	case *ast.SelectorExpr:
		p, ok := x.X.(*ast.Ident)
		if ok && (p.Name == "sync" && !has(syncHas, x.Sel.Name) || p.Name == "iter" && strings.HasPrefix(x.Sel.Name, "Pull")) {
			return p.Name + "." + x.Sel.Name
		}
	case *ast.CallExpr:
		if f, ok := x.Fun.(*ast.Ident); ok && (f.Name == "print" || f.Name == "println") {
			return f.Name
		}
	}
	return ""
}

func TestFiles(t *testing.T) {
	for _, f := range program(t) {
		if plain, err := format.Source(f.text); err != nil || !bytes.Equal(plain, f.text) {
			t.Errorf("%s: not gofmt's layout", f.name)
		}
		if strings.Contains(filepath.Base(f.name), "_") {
			t.Errorf("%s: such a name may keep the file out of a build", f.name)
		}
		for _, g := range f.tree.Comments {
			for _, c := range g.List {
				if strings.HasPrefix(c.Text, "//go:") || strings.HasPrefix(c.Text, "// +build") {
					t.Errorf("%s: %s", f.row(c.Pos()), c.Text)
				}
			}
		}
	}
}

func TestFunctions(t *testing.T) {
	for _, f := range program(t) {
		for _, d := range f.tree.Decls {
			x, ok := d.(*ast.FuncDecl)
			if !ok {
				continue
			}
			if n := f.set.Position(x.End()).Line - f.set.Position(x.Pos()).Line + 1; n > mostRows {
				t.Errorf("%s: %s has %d lines", f.row(x.Pos()), x.Name.Name, n)
			}
			if x.Body == nil {
				t.Errorf("%s: %s has no body", f.row(x.Pos()), x.Name.Name)
			}
		}
	}
}

func TestVariables(t *testing.T) {
	for _, f := range program(t) {
		for _, d := range f.tree.Decls {
			x, ok := d.(*ast.GenDecl)
			if !ok || x.Tok != token.VAR {
				continue
			}
			for _, s := range x.Specs {
				v := s.(*ast.ValueSpec)
				if len(v.Values) != len(v.Names) || slices.ContainsFunc(v.Values, func(e ast.Expr) bool { return !isTable(e) }) {
					t.Errorf("%s: %s may not stand at package level", f.row(v.Pos()), v.Names[0].Name)
				}
			}
		}
	}
}

// isTable tells whether a starting value is a table written out, or an error of one text.
func isTable(e ast.Expr) bool {
	if c, ok := e.(*ast.CallExpr); ok {
		s, ok := c.Fun.(*ast.SelectorExpr)
		if !ok || s.Sel.Name != "New" || len(c.Args) != 1 {
			return false
		}
		p, ok := s.X.(*ast.Ident)
		_, text := c.Args[0].(*ast.BasicLit)
		return ok && p.Name == "errors" && text
	}
	if b, ok := e.(*ast.BasicLit); ok && b.Kind == token.STRING {
		return false // a text is a constant
	}
	table := true
	ast.Inspect(e, func(n ast.Node) bool {
		switch x := n.(type) {
		case *ast.CallExpr, *ast.FuncLit, *ast.MapType, *ast.FuncType, *ast.InterfaceType, *ast.ChanType:
			table = false
		case *ast.UnaryExpr:
			table = table && x.Op != token.AND
		}
		return true
	})
	return table
}

// tables are the names of a package's variables at package level.
func tables(l []file) map[string]map[string]bool {
	names := map[string]map[string]bool{}
	for _, f := range l {
		if names[f.pack] == nil {
			names[f.pack] = map[string]bool{}
		}
		for _, d := range f.tree.Decls {
			x, ok := d.(*ast.GenDecl)
			if !ok || x.Tok != token.VAR {
				continue
			}
			for _, s := range x.Specs {
				for _, n := range s.(*ast.ValueSpec).Names {
					names[f.pack][n.Name] = true
				}
			}
		}
	}
	return names
}

// root is the name of the variable that an expression is a part of.
func root(e ast.Expr) *ast.Ident {
	switch x := e.(type) {
	case *ast.Ident:
		return x
	case *ast.ParenExpr:
		return root(x.X)
	case *ast.IndexExpr:
		return root(x.X)
	case *ast.SelectorExpr:
		return root(x.X)
	}
	return nil
}

// changed are the expressions that a statement or expression assigns to, takes the address of, or cuts a piece of.
func changed(n ast.Node) []ast.Expr {
	switch x := n.(type) {
	case *ast.AssignStmt:
		return x.Lhs
	case *ast.IncDecStmt:
		return []ast.Expr{x.X}
	case *ast.RangeStmt:
		return []ast.Expr{x.Key, x.Value}
	case *ast.SliceExpr:
		return []ast.Expr{x.X}
	case *ast.UnaryExpr:
		if x.Op == token.AND {
			return []ast.Expr{x.X}
		}
	}
	return nil
}

func TestTablesAreOnlyRead(t *testing.T) {
	l := program(t)
	names := tables(l)
	for _, f := range l {
		ast.Inspect(f.tree, func(n ast.Node) bool {
			for _, e := range changed(n) {
				v := root(e)
				if v == nil || !names[f.pack][v.Name] {
					continue
				}
				// One that is declared in another file of the package has no Obj; any other must be the table itself, not a local of its name.
				if v.Obj == nil || f.tree.Scope.Lookup(v.Name) == v.Obj {
					t.Errorf("%s: %s stands at package level, and is only read", f.row(v.Pos()), v.Name)
				}
			}
			return true
		})
	}
}
