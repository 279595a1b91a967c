// Package rules tests what the language's rules and the map of layers ask of all packages.
package rules

import (
	"bytes"
	"go/ast"
	"go/format"
	"go/parser"
	"go/token"
	"os"
	"path/filepath"
	"slices"
	"strconv"
	"strings"
	"testing"
)

// layers are the program's packages, from the lowest on, and settings beside them: one may import those ahead of it. They are listed, and not looked for, since other folders may be laid beside them for tests.
var layers = []string{
	"api", "settings", "gate", "crc", "codec", "frame", "disk", "wal", "batch", "seglog", "prod", "epochs", "net", "raft",
	"image", "replica", "txn", "group", "wire", "node", "client", "cluster", "model", "play",
}

// library is what may be imported; where names are listed, only these may be used.
var library = map[string][]string{
	"bytes": nil, "cmp": nil, "container/heap": nil, "errors": nil, "iter": {"Seq", "Seq2"}, "maps": nil, "math": nil,
	"math/bits": nil, "slices": nil, "sort": nil, "strconv": nil, "strings": nil,
	"sync": {"Mutex", "RWMutex", "WaitGroup", "Once"}, "sync/atomic": nil, "unicode": nil, "unicode/utf8": nil,
}

const maxLines = 60

// source is a file of the program.
type source struct {
	layer, name string
	text        []byte
	files       *token.FileSet
	tree        *ast.File
}

// sources are the files of all layers, without tests.
func sources(t *testing.T) []source {
	t.Helper()
	var all []source
	for _, layer := range layers {
		found, err := filepath.Glob(filepath.Join("..", layer, "*.go"))
		if err != nil || len(found) == 0 {
			t.Fatalf("package %s: no files (%v)", layer, err)
		}
		for _, name := range found {
			if !strings.HasSuffix(name, "_test.go") {
				all = append(all, read(t, layer, name))
			}
		}
	}
	return all
}

func read(t *testing.T, layer, name string) source {
	t.Helper()
	text, err := os.ReadFile(name)
	if err != nil {
		t.Fatal(err)
	}
	files := token.NewFileSet()
	tree, err := parser.ParseFile(files, name, text, parser.ParseComments)
	if err != nil {
		t.Fatal(err)
	}
	return source{layer, name, text, files, tree}
}

func TestImports(t *testing.T) {
	for _, s := range sources(t) {
		for _, i := range s.tree.Imports {
			path, err := strconv.Unquote(i.Path.Value)
			if err != nil {
				t.Fatal(err)
			}
			if i.Name != nil {
				t.Errorf("%s: %s is imported by another name", s.name, path)
			}
			if own, ok := strings.CutPrefix(path, "penstock/"); ok {
				if at := slices.Index(layers, own); at < 0 || at >= slices.Index(layers, s.layer) {
					t.Errorf("%s: %s is not below it", s.name, path)
				}
				continue
			}
			names, ok := library[path]
			if !ok {
				t.Errorf("%s: %s may not be imported", s.name, path)
			}
			if names != nil {
				onlyNames(t, s, path, names)
			}
		}
	}
}

// onlyNames tells of uses of a package beside the names that may be used.
func onlyNames(t *testing.T, s source, path string, names []string) {
	t.Helper()
	ast.Inspect(s.tree, func(n ast.Node) bool {
		x, ok := n.(*ast.SelectorExpr)
		if !ok {
			return true
		}
		if of, ok := x.X.(*ast.Ident); ok && of.Name == path && of.Obj == nil && !slices.Contains(names, x.Sel.Name) {
			t.Errorf("%s: %s.%s may not be used", s.name, path, x.Sel.Name)
		}
		return true
	})
}

func TestNoPrintingAndNoMarksForTheCompiler(t *testing.T) {
	for _, s := range sources(t) {
		for _, group := range s.tree.Comments {
			for _, c := range group.List {
				if strings.HasPrefix(c.Text, "//go:") || strings.HasPrefix(c.Text, "// +build") {
					t.Errorf("%s: %s", s.name, c.Text)
				}
			}
		}
		ast.Inspect(s.tree, func(n ast.Node) bool {
			call, ok := n.(*ast.CallExpr)
			if !ok {
				return true
			}
			if f, ok := call.Fun.(*ast.Ident); ok && f.Obj == nil && (f.Name == "print" || f.Name == "println") {
				t.Errorf("%s: prints", s.name)
			}
			return true
		})
	}
}

func TestLayoutAndLength(t *testing.T) {
	for _, s := range sources(t) {
		laid, err := format.Source(s.text)
		if err != nil || !bytes.Equal(laid, s.text) {
			t.Errorf("%s: not in gofmt's layout (%v)", s.name, err)
		}
		for _, d := range s.tree.Decls {
			f, ok := d.(*ast.FuncDecl)
			if !ok {
				continue
			}
			lines := s.files.Position(f.End()).Line - s.files.Position(f.Pos()).Line + 1
			if lines > maxLines {
				t.Errorf("%s: %s has %d lines", s.name, f.Name.Name, lines)
			}
		}
	}
}

func TestOnlyGoFiles(t *testing.T) {
	for _, layer := range layers {
		found, err := os.ReadDir(filepath.Join("..", layer))
		if err != nil {
			t.Fatal(err)
		}
		for _, f := range found {
			if f.IsDir() || !strings.HasSuffix(f.Name(), ".go") {
				t.Errorf("%s/%s: not a Go file", layer, f.Name())
			}
		}
	}
}

// TestPackageVariables: each has a value that is written out, and is no map, no function and nothing that a call makes, but errors.New.
func TestPackageVariables(t *testing.T) {
	for _, s := range sources(t) {
		for _, d := range s.tree.Decls {
			g, ok := d.(*ast.GenDecl)
			if !ok || g.Tok != token.VAR {
				continue
			}
			for _, spec := range g.Specs {
				v := spec.(*ast.ValueSpec)
				if len(v.Values) != len(v.Names) {
					t.Errorf("%s: %s has no value of its own", s.name, v.Names[0].Name)
				}
				for i, value := range v.Values {
					if !writtenOut(value) {
						t.Errorf("%s: the value of %s isn't written out", s.name, v.Names[i].Name)
					}
				}
			}
		}
	}
}

func writtenOut(value ast.Expr) bool {
	if call, ok := value.(*ast.CallExpr); ok {
		f, ok := call.Fun.(*ast.SelectorExpr)
		if !ok || f.Sel.Name != "New" || len(call.Args) != 1 {
			return false
		}
		of, ok := f.X.(*ast.Ident)
		_, text := call.Args[0].(*ast.BasicLit)
		return ok && of.Name == "errors" && text
	}
	fine := true
	ast.Inspect(value, func(n ast.Node) bool {
		switch x := n.(type) {
		case *ast.CallExpr, *ast.FuncLit, *ast.MapType:
			fine = false
		case *ast.UnaryExpr:
			fine = fine && x.Op != token.AND
		case *ast.BasicLit:
			fine = fine && x.Kind != token.FLOAT && x.Kind != token.IMAG
		}
		return true
	})
	return fine
}

// TestWaysOfStructs: what the structs of stages 1, 3, 6, 7, 8 and 11 are made of.
func TestWaysOfStructs(t *testing.T) {
	want := map[string][]string{
		"gate.Counter": {"atomic.Uint64"},
		"gate.Once":    {"sync.Once"},
		"gate.Marks":   {"array"},
		"crc.Table":    {"sync.Once", "array"},
		"disk.Disk":    {"map"},
		"prod.Table":   {"map"},
		"net.Net":      {"map", "generic"},
		"raft.Raft":    {"map"},
		"txn.State":    {"map"},
		"group.State":  {"map"},
	}
	for _, s := range sources(t) {
		ast.Inspect(s.tree, func(n ast.Node) bool {
			spec, ok := n.(*ast.TypeSpec)
			if !ok {
				return true
			}
			name := s.layer + "." + spec.Name.Name
			made := madeOf(spec)
			for _, way := range want[name] {
				if !slices.Contains(made, way) {
					t.Errorf("%s has no %s", name, way)
				}
			}
			delete(want, name)
			return true
		})
	}
	for name := range want {
		t.Errorf("there is no %s", name)
	}
}

// madeOf are the kinds of a struct's fields, as far as a stage asks for them.
func madeOf(spec *ast.TypeSpec) []string {
	var kinds []string
	fields, ok := spec.Type.(*ast.StructType)
	if !ok {
		return nil
	}
	for _, f := range fields.Fields.List {
		switch x := f.Type.(type) {
		case *ast.ArrayType:
			if x.Len != nil {
				kinds = append(kinds, "array")
			}
		case *ast.MapType:
			kinds = append(kinds, "map")
		case *ast.IndexExpr:
			kinds = append(kinds, "generic")
		case *ast.SelectorExpr:
			if of, ok := x.X.(*ast.Ident); ok {
				kinds = append(kinds, of.Name+"."+x.Sel.Name)
			}
		}
	}
	return kinds
}

// TestWaysOfDisk: files are deleted from the map that keeps them, and it is ranged over for their names.
func TestWaysOfDisk(t *testing.T) {
	deleted, ranged := false, false
	for _, s := range sources(t) {
		if s.layer != "disk" {
			continue
		}
		ast.Inspect(s.tree, func(n ast.Node) bool {
			switch x := n.(type) {
			case *ast.CallExpr:
				f, ok := x.Fun.(*ast.Ident)
				deleted = deleted || ok && f.Name == "delete" && isFiles(x.Args[0])
			case *ast.RangeStmt:
				ranged = ranged || isFiles(x.X)
			}
			return true
		})
	}
	if !deleted || !ranged {
		t.Errorf("deleted %v, ranged over %v", deleted, ranged)
	}
}

// isFiles tells whether that is a disk's map of files.
func isFiles(e ast.Expr) bool {
	x, ok := e.(*ast.SelectorExpr)
	return ok && x.Sel.Name == "files"
}

// TestWaysOfBatch: the values that Decode takes are counted by a range over a number.
func TestWaysOfBatch(t *testing.T) {
	counted := false
	for _, s := range sources(t) {
		if s.layer != "batch" {
			continue
		}
		ast.Inspect(s.tree, func(n ast.Node) bool {
			if f, ok := n.(*ast.FuncDecl); ok {
				return f.Name.Name == "Decode"
			}
			x, ok := n.(*ast.RangeStmt)
			counted = counted || ok && isNumber(x.X)
			return true
		})
	}
	if !counted {
		t.Error("nothing is counted by a range over a number")
	}
}

// isNumber tells whether that is made an int on the spot, as far as the text shows it.
func isNumber(e ast.Expr) bool {
	x, ok := e.(*ast.CallExpr)
	if !ok {
		return false
	}
	f, ok := x.Fun.(*ast.Ident)
	return ok && f.Name == "int"
}

// TestWaysOfSeglog: a file that isn't the log's is passed by a label, from within a range over its name.
func TestWaysOfSeglog(t *testing.T) {
	passed := false
	for _, s := range sources(t) {
		if s.layer != "seglog" {
			continue
		}
		ast.Inspect(s.tree, func(n ast.Node) bool {
			x, ok := n.(*ast.LabeledStmt)
			passed = passed || ok && passesFromWithin(x)
			return true
		})
	}
	if !passed {
		t.Error("no label is gone on at from within an inner range")
	}
}

// passesFromWithin tells whether a label stands ahead of a range, and is gone on at from within another one inside it.
func passesFromWithin(label *ast.LabeledStmt) bool {
	outer, ok := label.Stmt.(*ast.RangeStmt)
	if !ok {
		return false
	}
	passes := false
	ast.Inspect(outer.Body, func(n ast.Node) bool {
		inner, ok := n.(*ast.RangeStmt)
		if !ok {
			return true
		}
		ast.Inspect(inner.Body, func(n ast.Node) bool {
			x, ok := n.(*ast.BranchStmt)
			passes = passes || ok && x.Tok == token.CONTINUE && x.Label != nil && x.Label.Name == label.Label.Name
			return true
		})
		return true
	})
	return passes
}

// TestWaysOfProd: a batch is known again by a field that is a struct, and is compared as a whole.
func TestWaysOfProd(t *testing.T) {
	var found []source
	for _, s := range sources(t) {
		if s.layer == "prod" {
			found = append(found, s)
		}
	}
	fields := structFields(found)
	compared := false
	for _, s := range found {
		ast.Inspect(s.tree, func(n ast.Node) bool {
			x, ok := n.(*ast.BinaryExpr)
			if !ok || x.Op != token.EQL {
				return true
			}
			side, ok := x.X.(*ast.SelectorExpr)
			compared = compared || ok && slices.Contains(fields, side.Sel.Name)
			return true
		})
	}
	if !compared {
		t.Error("no struct is compared")
	}
}

// structFields are the names of fields that are structs of the same package.
func structFields(found []source) []string {
	structs := map[string]*ast.StructType{}
	for _, s := range found {
		ast.Inspect(s.tree, func(n ast.Node) bool {
			if spec, ok := n.(*ast.TypeSpec); ok {
				if fields, ok := spec.Type.(*ast.StructType); ok {
					structs[spec.Name.Name] = fields
				}
			}
			return true
		})
	}
	var names []string
	for _, fields := range structs {
		for _, f := range fields.Fields.List {
			if of, ok := f.Type.(*ast.Ident); !ok || structs[of.Name] == nil {
				continue
			}
			for _, n := range f.Names {
				names = append(names, n.Name)
			}
		}
	}
	return names
}

// TestWaysOfEpochs: All answers a closure.
func TestWaysOfEpochs(t *testing.T) {
	closure := false
	for _, s := range sources(t) {
		if s.layer != "epochs" {
			continue
		}
		ast.Inspect(s.tree, func(n ast.Node) bool {
			if f, ok := n.(*ast.FuncDecl); ok {
				return f.Name.Name == "All"
			}
			x, ok := n.(*ast.ReturnStmt)
			if ok && len(x.Results) == 1 {
				_, made := x.Results[0].(*ast.FuncLit)
				closure = closure || made
			}
			return true
		})
	}
	if !closure {
		t.Error("All answers no closure")
	}
}

// TestWaysOfNet: the pairs that are cut stand in a map whose keys are arrays, and that map is cleared.
func TestWaysOfNet(t *testing.T) {
	var arrays, cleared []string
	keys := map[string]string{} // of each field that is a map, the name of its keys' type
	for _, s := range sources(t) {
		if s.layer != "net" {
			continue
		}
		ast.Inspect(s.tree, func(n ast.Node) bool {
			switch x := n.(type) {
			case *ast.TypeSpec:
				if of, ok := x.Type.(*ast.ArrayType); ok && of.Len != nil {
					arrays = append(arrays, x.Name.Name)
				}
			case *ast.Field:
				if of, ok := x.Type.(*ast.MapType); ok && len(x.Names) == 1 {
					keys[x.Names[0].Name] = nameOf(of.Key)
				}
			case *ast.CallExpr:
				if nameOf(x.Fun) == "clear" {
					cleared = append(cleared, nameOf(x.Args[0]))
				}
			}
			return true
		})
	}
	if len(cleared) != 1 || !slices.Contains(arrays, keys[cleared[0]]) {
		t.Errorf("cleared: %q; keys of maps: %q; arrays: %q", cleared, keys, arrays)
	}
}

// TestWaysOfRaft: votes stand in the map, and nodes are gone through by a range over their number.
func TestWaysOfRaft(t *testing.T) {
	voted, gone := false, 0
	for _, s := range sources(t) {
		if s.layer != "raft" {
			continue
		}
		ast.Inspect(s.tree, func(n ast.Node) bool {
			switch x := n.(type) {
			case *ast.Field:
				_, ok := x.Type.(*ast.MapType)
				voted = voted || ok && len(x.Names) == 1 && x.Names[0].Name == "votes"
			case *ast.RangeStmt:
				if nameOf(x.X) == "n" {
					gone++
				}
			}
			return true
		})
	}
	if !voted || gone == 0 {
		t.Errorf("votes in a map: %v, ranges over the number of nodes: %d", voted, gone)
	}
}

// TestWaysOfImage: whom a list lets go is told by a closure.
func TestWaysOfImage(t *testing.T) {
	told := false
	for _, s := range sources(t) {
		if s.layer != "image" {
			continue
		}
		ast.Inspect(s.tree, func(n ast.Node) bool {
			x, ok := n.(*ast.CallExpr)
			if ok && nameOf(x.Fun) == "DeleteFunc" && len(x.Args) == 2 {
				_, made := x.Args[1].(*ast.FuncLit)
				told = told || made
			}
			return true
		})
	}
	if !told {
		t.Error("no list lets anybody go by a closure")
	}
}

// TestWaysOfGroup: what waited for a transaction is deleted from the map that keeps it.
func TestWaysOfGroup(t *testing.T) {
	kept, deleted := false, false
	for _, s := range sources(t) {
		if s.layer != "group" {
			continue
		}
		ast.Inspect(s.tree, func(n ast.Node) bool {
			switch x := n.(type) {
			case *ast.Field:
				_, ok := x.Type.(*ast.MapType)
				kept = kept || ok && len(x.Names) == 1 && x.Names[0].Name == "waiting"
			case *ast.CallExpr:
				deleted = deleted || nameOf(x.Fun) == "delete" && nameOf(x.Args[0]) == "waiting"
			}
			return true
		})
	}
	if !kept || !deleted {
		t.Errorf("kept in a map: %v, deleted: %v", kept, deleted)
	}
}

// TestWaysOfWire: the writer and the reader of messages embed those of layer 3, and lists are taken by a generic function that is handed a method value.
func TestWaysOfWire(t *testing.T) {
	embedded := map[string]string{} // of each struct, what it embeds
	variadic := 0
	var generic, handed []string // the functions that are generic, and those that are handed a method value
	for _, s := range sources(t) {
		if s.layer != "wire" {
			continue
		}
		ast.Inspect(s.tree, func(n ast.Node) bool {
			switch x := n.(type) {
			case *ast.TypeSpec:
				embedded[x.Name.Name] = embeds(x)
			case *ast.FuncDecl:
				if x.Type.TypeParams != nil {
					generic = append(generic, x.Name.Name)
				}
			case *ast.Ellipsis:
				variadic++
			case *ast.CallExpr:
				if len(x.Args) == 2 {
					if of, ok := x.Args[1].(*ast.SelectorExpr); ok && nameOf(of.X) == "r" {
						handed = append(handed, nameOf(x.Fun))
					}
				}
			}
			return true
		})
	}
	if embedded["writer"] != "Writer" || embedded["reader"] != "Reader" {
		t.Errorf("embedded: %v", embedded)
	}
	if variadic == 0 {
		t.Error("no call is variadic")
	}
	if !slices.ContainsFunc(generic, func(name string) bool { return slices.Contains(handed, name) }) {
		t.Errorf("generic: %q; handed a method value: %q", generic, handed)
	}
}

// embeds is the last name of what a struct embeds behind a pointer.
func embeds(spec *ast.TypeSpec) string {
	fields, ok := spec.Type.(*ast.StructType)
	if !ok {
		return ""
	}
	for _, f := range fields.Fields.List {
		if to, ok := f.Type.(*ast.StarExpr); ok && len(f.Names) == 0 {
			return nameOf(to.X)
		}
	}
	return ""
}

// TestWaysOfGivingUp: in wire a panic is recovered by a deferred function literal, within which it is taken up by an assertion.
func TestWaysOfGivingUp(t *testing.T) {
	thrown, taken := false, false
	for _, s := range sources(t) {
		if s.layer != "wire" {
			continue
		}
		ast.Inspect(s.tree, func(n ast.Node) bool {
			switch x := n.(type) {
			case *ast.CallExpr:
				thrown = thrown || nameOf(x.Fun) == "panic"
			case *ast.DeferStmt:
				made, ok := x.Call.Fun.(*ast.FuncLit)
				taken = taken || ok && takesUp(made)
			}
			return true
		})
	}
	if !thrown || !taken {
		t.Errorf("thrown: %v, taken up: %v", thrown, taken)
	}
}

// takesUp tells whether a function recovers, and asserts.
func takesUp(made *ast.FuncLit) bool {
	recovers, asserts := false, false
	ast.Inspect(made, func(n ast.Node) bool {
		switch x := n.(type) {
		case *ast.CallExpr:
			recovers = recovers || nameOf(x.Fun) == "recover"
		case *ast.TypeAssertExpr:
			asserts = asserts || x.Type != nil
		}
		return true
	})
	return recovers && asserts
}

// TestWaysOfNode: what was marked stands in a map whose keys are arrays, and who leads no more has that cleared.
func TestWaysOfNode(t *testing.T) {
	keyed, cleared, leaves := false, false, false
	for _, s := range sources(t) {
		if s.layer != "node" {
			continue
		}
		ast.Inspect(s.tree, func(n ast.Node) bool {
			switch x := n.(type) {
			case *ast.Field:
				of, ok := x.Type.(*ast.MapType)
				if ok && len(x.Names) == 1 && x.Names[0].Name == "marks" {
					_, keyed = of.Key.(*ast.ArrayType)
				}
			case *ast.FuncDecl:
				cleared = cleared || x.Name.Name == "clear" && calls(x, "clear", "marks")
				leaves = leaves || x.Name.Name == "follow" && calls(x, "clear", "")
			}
			return true
		})
	}
	if !keyed || !cleared || !leaves {
		t.Errorf("keys are arrays: %v, cleared: %v, by who leads no more: %v", keyed, cleared, leaves)
	}
}

// TestWaysOfClient: what is done by an operation's kind is found in a map of method expressions, that a function makes and that is asked by the kind.
func TestWaysOfClient(t *testing.T) {
	kinds, asked := 0, false
	for _, s := range sources(t) {
		if s.layer != "client" {
			continue
		}
		ast.Inspect(s.tree, func(n ast.Node) bool {
			switch x := n.(type) {
			case *ast.CompositeLit:
				if of, ok := x.Type.(*ast.MapType); ok && isFunction(of.Value) {
					kinds += methodExpressions(x)
				}
			case *ast.IndexExpr:
				made, ok := x.X.(*ast.CallExpr)
				asked = asked || ok && nameOf(made.Fun) == "deeds" && nameOf(x.Index) == "Kind"
			}
			return true
		})
	}
	if kinds != 5 || !asked {
		t.Errorf("method expressions: %d, asked by the kind: %v", kinds, asked)
	}
}

// TestWaysOfCluster: who takes messages, a node or a client, is behind an interface: two types have its methods, and it is called by way of it.
func TestWaysOfCluster(t *testing.T) {
	parties, calls := 0, 0
	behind := false
	for _, s := range sources(t) {
		if s.layer != "cluster" {
			continue
		}
		ast.Inspect(s.tree, func(n ast.Node) bool {
			switch x := n.(type) {
			case *ast.TypeSpec:
				_, ok := x.Type.(*ast.InterfaceType)
				behind = behind || ok && x.Name.Name == "party"
			case *ast.FuncDecl:
				if x.Recv != nil && x.Name.Name == "handle" {
					parties++
				}
				if x.Name.Name == "deliver" {
					calls += callsOf(x, "handle")
				}
			}
			return true
		})
	}
	if !behind || parties != 2 || calls != 1 {
		t.Errorf("behind an interface: %v, types: %d, called: %d", behind, parties, calls)
	}
}

// callsOf is how often a function calls one of that name.
func callsOf(f *ast.FuncDecl, name string) int {
	count := 0
	ast.Inspect(f.Body, func(n ast.Node) bool {
		if x, ok := n.(*ast.CallExpr); ok && nameOf(x.Fun) == name {
			count++
		}
		return true
	})
	return count
}

func isFunction(e ast.Expr) bool {
	_, ok := e.(*ast.FuncType)
	return ok
}

// methodExpressions is how many of a map's values are method expressions of a pointer's type.
func methodExpressions(table *ast.CompositeLit) int {
	count := 0
	for _, e := range table.Elts {
		pair, ok := e.(*ast.KeyValueExpr)
		if !ok {
			continue
		}
		value, ok := pair.Value.(*ast.SelectorExpr)
		if !ok {
			continue
		}
		if of, ok := value.X.(*ast.ParenExpr); ok {
			if _, ok := of.X.(*ast.StarExpr); ok {
				count++
			}
		}
	}
	return count
}

// calls tells whether a function calls one of that name, with that as its first argument (none: without any).
func calls(f *ast.FuncDecl, name, argument string) bool {
	found := false
	ast.Inspect(f.Body, func(n ast.Node) bool {
		x, ok := n.(*ast.CallExpr)
		if !ok || nameOf(x.Fun) != name {
			return true
		}
		first := ""
		if len(x.Args) > 0 {
			first = nameOf(x.Args[0])
		}
		found = found || first == argument
		return true
	})
	return found
}

// nameOf is the last name of what stands there, if it is one.
func nameOf(e ast.Expr) string {
	switch x := e.(type) {
	case *ast.Ident:
		return x.Name
	case *ast.SelectorExpr:
		return x.Sel.Name
	}
	return ""
}
