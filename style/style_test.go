// Package style holds the program's text against the rules of its language.
package style

import (
	"go/ast"
	"go/format"
	"go/parser"
	"go/token"
	"os"
	"path/filepath"
	"strconv"
	"strings"
	"testing"
)

const allowed = " bytes cmp container/heap errors iter maps math math/bits slices sort strconv strings sync sync/atomic unicode unicode/utf8 "

func TestStyle(t *testing.T) {
	files, err := filepath.Glob("../*/*.go")
	if err != nil || len(files) < 33 {
		t.Fatal(len(files), err)
	}
	for _, name := range files {
		if strings.HasSuffix(name, "_test.go") || strings.HasPrefix(name, "../sharedtests/") {
			continue
		}
		text, err := os.ReadFile(name)
		if err != nil {
			t.Fatal(err)
		}
		if clean, err := format.Source(text); err != nil || string(clean) != string(text) {
			t.Error(name, "isn't laid out", err)
		}
		set := token.NewFileSet()
		f, err := parser.ParseFile(set, name, text, parser.ParseComments)
		if err != nil {
			t.Fatal(err)
		}
		look(t, name, set, f)
	}
}

func look(t *testing.T, name string, set *token.FileSet, f *ast.File) {
	for _, i := range f.Imports {
		path, _ := strconv.Unquote(i.Path.Value)
		if !strings.HasPrefix(path, "gloaming/") && !strings.Contains(allowed, " "+path+" ") {
			t.Error(name, "imports", path)
		}
	}
	for _, c := range f.Comments {
		if strings.HasPrefix(c.List[0].Text, "//go:") || strings.HasPrefix(c.List[0].Text, "// +build") {
			t.Error(name, c.List[0].Text)
		}
	}
}
