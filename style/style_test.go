// Package style holds the program's text against the rules of its language.
package style

import (
	"go/ast"
	"go/format"
	"go/parser"
	"go/token"
	"os"
	"path/filepath"
	"strconv"
	"strings"
	"testing"
)

const allowed = " bytes cmp container/heap errors iter maps math math/bits slices sort strconv strings sync sync/atomic unicode unicode/utf8 "

const mostLines = 60

func TestStyle(t *testing.T) {
	files, err := filepath.Glob("../*/*.go")
	if err != nil || len(files) < 33 {
		t.Fatal(len(files), err)
	}
	for _, name := range files {
		if strings.HasSuffix(name, "_test.go") || strings.HasPrefix(name, "../sharedtests/") {
			continue
		}
		text, err := os.ReadFile(name)
		if err != nil {
			t.Fatal(err)
		}
		if clean, err := format.Source(text); err != nil || string(clean) != string(text) {
			t.Error(name, "isn't laid out", err)
		}
		set := token.NewFileSet()
		f, err := parser.ParseFile(set, name, text, parser.ParseComments)
		if err != nil {
			t.Fatal(err)
		}
		look(t, name, set, f)
	}
}

func look(t *testing.T, name string, set *token.FileSet, f *ast.File) {
	for _, i := range f.Imports {
		path, _ := strconv.Unquote(i.Path.Value)
		if !strings.HasPrefix(path, "gloaming/") && !strings.Contains(allowed, " "+path+" ") {
			t.Error(name, "imports", path)
		}
	}
	for _, c := range f.Comments {
		if strings.HasPrefix(c.List[0].Text, "//go:") || strings.HasPrefix(c.List[0].Text, "// +build") {
			t.Error(name, c.List[0].Text)
		}
	}
	for _, d := range f.Decls {
		switch x := d.(type) {
		case *ast.FuncDecl:
			if n := set.Position(x.End()).Line - set.Position(x.Pos()).Line + 1; n > mostLines {
				t.Error(name, x.Name.Name, "has", n, "lines")
			}
		case *ast.GenDecl:
			if x.Tok != token.VAR {
				continue
			}
			for _, s := range x.Specs {
				v := s.(*ast.ValueSpec)
				if len(v.Values) == 0 {
					t.Error(name, v.Names[0].Name, "has no value of its own")
					continue
				}
				if _, ok := v.Values[0].(*ast.CompositeLit); !ok {
					t.Error(name, v.Names[0].Name, "is no table")
				}
			}
		}
	}
}
