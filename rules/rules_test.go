// Package rules has tests alone: of what every package of the program keeps to, whichever layer it is.
package rules

import (
	"go/ast"
	"go/parser"
	"go/token"
	"os"
	"path/filepath"
	"slices"
	"strconv"
	"strings"
	"testing"
)

const module = "coaming/"

// libraryAllowed are the packages of the library that the language's rule 1 names.
const libraryAllowed = "bytes cmp container/heap errors iter maps math math/bits slices sort strconv strings sync sync/atomic unicode unicode/utf8"

// layerCalls are the rows of the document's map: which packages a layer may call.
func layerCalls() map[string]string {
	return map[string]string{
		"api":    "",
		"crc":    "",
		"sha":    "api",
		"mac":    "api sha",
		"spell":  "api",
		"pass":   "api mac spell",
		"wire":   "",
		"greet":  "api wire",
		"req":    "api wire",
		"score":  "",
		"zone":   "api",
		"rec":    "api crc wire",
		"seg":    "api zone",
		"lmap":   "api",
		"ckpt":   "api crc wire zone",
		"ledger": "api zone ckpt",
		"store":  "api crc zone rec seg lmap ckpt",
		"clean":  "api score seg lmap store",
		"roll":   "api zone rec lmap ckpt store",
		"vol":    "api zone ledger lmap store clean roll",
		"pipe":   "api",
		"conn":   "api pass greet req pipe",
		"srv":    "api pass zone store conn vol",
		"lab":    "api pass wire greet req srv",
	}
}

type source struct {
	layer, path string
	file        *ast.File
}

// sources are the program's own files, without tests.
func sources(t *testing.T) []source {
	t.Helper()
	paths, err := filepath.Glob("../*/*.go")
	if err != nil {
		t.Fatal(err)
	}
	var out []source
	for _, path := range paths {
		if strings.HasSuffix(path, "_test.go") || strings.HasPrefix(path, "../sharedtests/") {
			continue
		}
		file, err := parser.ParseFile(token.NewFileSet(), path, nil, parser.ParseComments)
		if err != nil {
			t.Fatal(err)
		}
		out = append(out, source{filepath.Base(filepath.Dir(path)), path, file})
	}
	return out
}

func imports(t *testing.T, s source) []string {
	t.Helper()
	var out []string
	for _, spec := range s.file.Imports {
		path, err := strconv.Unquote(spec.Path.Value)
		if err != nil {
			t.Fatal(err)
		}
		out = append(out, path)
	}
	return out
}

func TestEveryLayerIsThere(t *testing.T) {
	have := map[string]int{}
	for _, s := range sources(t) {
		have[s.layer]++
	}
	for layer := range layerCalls() {
		if have[layer] == 0 {
			t.Errorf("no package %s", layer)
		}
	}
}

func TestLayersCallThoseOfTheMap(t *testing.T) {
	calls := layerCalls()
	for _, s := range sources(t) {
		allowed, isLayer := calls[s.layer]
		for _, path := range imports(t, s) {
			name, own := strings.CutPrefix(path, module)
			_, toLayer := calls[name]
			if own && isLayer && toLayer && !slices.Contains(strings.Fields(allowed), name) {
				t.Errorf("%s: imports %s, which the map does not list for it", s.path, path)
			}
		}
	}
}

func TestLibraryIsTheAllowedOne(t *testing.T) {
	for _, s := range sources(t) {
		for _, path := range imports(t, s) {
			if !strings.HasPrefix(path, module) && !slices.Contains(strings.Fields(libraryAllowed), path) {
				t.Errorf("%s: imports %s", s.path, path)
			}
		}
	}
}

func TestNoLinesForTheTools(t *testing.T) {
	for _, s := range sources(t) {
		for _, group := range s.file.Comments {
			for _, c := range group.List {
				if strings.HasPrefix(c.Text, "//go:") || strings.HasPrefix(c.Text, "// +build") {
					t.Errorf("%s: %s", s.path, c.Text)
				}
			}
		}
	}
}

func TestGoFilesAlone(t *testing.T) {
	for layer := range layerCalls() {
		entries, err := os.ReadDir(filepath.Join("..", layer))
		if err != nil {
			t.Fatal(err)
		}
		for _, e := range entries {
			// testdata is a test's, not the program's.
			if e.Name() != "testdata" && !strings.HasSuffix(e.Name(), ".go") {
				t.Errorf("%s/%s is no Go file", layer, e.Name())
			}
		}
	}
}
