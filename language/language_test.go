// Package language holds the program's files against the rules of shared/LANGUAGE.md that a test can see.
package language

import (
	"bytes"
	"go/ast"
	"go/format"
	"go/parser"
	"go/token"
	"os"
	"path/filepath"
	"slices"
	"strconv"
	"strings"
	"testing"
)

// maxLines is how long a function may be.
const maxLines = 60

// folders are the program's own: what a test run lays beside them is not looked at.
func folders() []string {
	return []string{
		"api", "codec", "crc", "edge", "disk", "page", "pagefile", "rootslot", "runs", "chain", "alloc", "entry", "node",
		"cowtree", "treediff", "strict", "draft", "seq", "grove", "tour", "adj", "forest", "catalog", "model", "mark", "gc", "graphdb", "play",
	}
}

func allowed(path string) bool {
	if strings.HasPrefix(path, "rootstock/") {
		return slices.Contains(folders(), strings.TrimPrefix(path, "rootstock/"))
	}
	return slices.Contains([]string{
		"bytes", "cmp", "container/heap", "errors", "iter", "maps", "math", "math/bits", "slices", "sort", "strconv", "strings",
		"sync", "sync/atomic", "unicode", "unicode/utf8",
	}, path)
}

// faults are what is wrong with a file's text.
func faults(name string, text []byte) []string {
	fset := token.NewFileSet()
	f, err := parser.ParseFile(fset, name, text, parser.ParseComments)
	if err != nil {
		return []string{err.Error()}
	}
	var out []string
	if laid, err := format.Source(text); err != nil || !bytes.Equal(laid, text) {
		out = append(out, name+": not in gofmt's layout")
	}
	for _, i := range f.Imports {
		if path, err := strconv.Unquote(i.Path.Value); err != nil || !allowed(path) {
			out = append(out, name+": imports "+i.Path.Value)
		}
	}
	for _, g := range f.Comments {
		for _, c := range g.List {
			if strings.HasPrefix(c.Text, "//go:") || strings.HasPrefix(c.Text, "// +build") {
				out = append(out, name+": has the line "+c.Text)
			}
		}
	}
	ast.Inspect(f, func(n ast.Node) bool {
		switch x := n.(type) {
		case *ast.FuncDecl:
			if fset.Position(x.End()).Line-fset.Position(x.Pos()).Line >= maxLines {
				out = append(out, name+": too long a function: "+x.Name.Name)
			}
		case *ast.SelectorExpr:
			if p, ok := x.X.(*ast.Ident); ok && !may(p.Name, x.Sel.Name) {
				out = append(out, name+": calls "+p.Name+"."+x.Sel.Name)
			}
		case *ast.CallExpr:
			if p, ok := x.Fun.(*ast.Ident); ok && (p.Name == "print" || p.Name == "println") {
				out = append(out, name+": prints")
			}
		}
		return true
	})
	return out
}

// may tells whether a name of a package that may be imported may be used.
func may(pack, name string) bool {
	switch pack {
	case "iter":
		return name != "Pull" && name != "Pull2"
	case "sync":
		return slices.Contains([]string{"Mutex", "RWMutex", "WaitGroup", "Once"}, name)
	}
	return true
}

func TestTheProgramKeepsToItsLanguage(t *testing.T) {
	for _, folder := range folders() {
		files, err := os.ReadDir(filepath.Join("..", folder))
		if err != nil {
			t.Error(err)
			continue
		}
		seen := 0
		for _, f := range files {
			name := filepath.Join("..", folder, f.Name())
			switch {
			case strings.HasSuffix(name, "_test.go") || f.IsDir():
				continue
			case !strings.HasSuffix(name, ".go"):
				t.Error(name, "is no Go file")
				continue
			}
			seen++
			text, err := os.ReadFile(name)
			if err != nil {
				t.Error(err)
				continue
			}
			for _, x := range faults(name, text) {
				t.Error(x)
			}
		}
		if seen == 0 {
			t.Error(folder, "has no Go file")
		}
	}
}

func TestFaultsAreSeen(t *testing.T) {
	long := "package a\n\nfunc f() {\n" + strings.Repeat("\t_ = 0\n", maxLines-1) + "}\n"
	for text, want := range map[string]int{
		"package a\n": 0,
		"package a\n\nimport (\n\t\"strings\"\n\n\t\"rootstock/api\"\n)\n":    0,
		"package a\n\nimport \"fmt\"\n":                                       1,
		"package a\n\nimport \"rootstock/other\"\n":                           1,
		"package a\n\nimport \"C\"\n":                                         1,
		"//go:build linux\n\npackage a\n":                                     1,
		"package a\n\nfunc f() { println() }\n":                               1,
		"package a\n\nimport \"sync\"\n\nvar m sync.Map\n":                    1,
		"package a\n\nimport \"sync\"\n\nvar m sync.Mutex\n":                  0,
		"package a\n\nimport \"iter\"\n\nfunc f() { iter.Pull[int](nil) }\n":  1,
		"package a\nvar  x = 1\n":                                             1,
		"package a\n\nfunc {\n":                                               1,
		long:                                                                  1,
		"package a\n\nfunc f() {\n" + strings.Repeat("\t_ = 0\n", 58) + "}\n": 0,
	} {
		if got := faults("a.go", []byte(text)); len(got) != want {
			t.Errorf("%q: %q", text, got)
		}
	}
}
