// Package upkeep holds tests of the program's text: that its calls are those of the document, and that it keeps to the language's rules.
package upkeep

import (
	"bytes"
	"go/ast"
	"go/format"
	"go/parser"
	"go/token"
	"os"
	"path/filepath"
	"slices"
	"strconv"
	"strings"
	"testing"
)

const (
	root     = ".."
	maxLines = 60 // of a function
)

var library = strings.Fields("bytes cmp container/heap errors iter maps math math/big math/bits slices sort strconv strings sync sync/atomic unicode unicode/utf8")

// programFiles are the files of the program itself: neither its tests nor those that are laid beside it.
func programFiles(t *testing.T) []string {
	t.Helper()
	all, err := filepath.Glob(filepath.Join(root, "*", "*.go"))
	if err != nil || len(all) == 0 {
		t.Fatalf("no files: %v", err)
	}
	return slices.DeleteFunc(all, func(f string) bool { return strings.HasSuffix(f, "_test.go") })
}

func parse(t *testing.T, file string) (*token.FileSet, *ast.File, []byte) {
	t.Helper()
	text, err := os.ReadFile(file)
	if err != nil {
		t.Fatal(err)
	}
	fset := token.NewFileSet()
	tree, err := parser.ParseFile(fset, file, text, parser.ParseComments)
	if err != nil {
		t.Fatal(err)
	}
	return fset, tree, text
}

func TestImports(t *testing.T) {
	for _, file := range programFiles(t) {
		_, tree, _ := parse(t, file)
		for _, i := range tree.Imports {
			path, _ := strconv.Unquote(i.Path.Value)
			if !strings.HasPrefix(path, "weir/") && !slices.Contains(library, path) {
				t.Errorf("%s imports %s", file, path)
			}
		}
	}
}

func TestNoDirectives(t *testing.T) {
	for _, file := range programFiles(t) {
		_, tree, _ := parse(t, file)
		for _, group := range tree.Comments {
			for _, c := range group.List {
				if strings.HasPrefix(c.Text, "//go:") || strings.HasPrefix(c.Text, "// +build") {
					t.Errorf("%s: %s", file, c.Text)
				}
			}
		}
	}
}

func TestFunctionsAreShort(t *testing.T) {
	for _, file := range programFiles(t) {
		fset, tree, _ := parse(t, file)
		for _, d := range tree.Decls {
			f, ok := d.(*ast.FuncDecl)
			if !ok {
				continue
			}
			if n := fset.Position(f.End()).Line - fset.Position(f.Pos()).Line + 1; n > maxLines {
				t.Errorf("%s: %s has %d lines", file, f.Name.Name, n)
			}
		}
	}
}

func TestLayout(t *testing.T) {
	for _, file := range programFiles(t) {
		_, _, text := parse(t, file)
		if laid, err := format.Source(text); err != nil || !bytes.Equal(laid, text) {
			t.Errorf("%s is not as gofmt lays it out (%v)", file, err)
		}
	}
}
