package rules

import (
	"go/ast"
	"go/token"
	"slices"
	"testing"
)

// The language features that the document's section 'Ways' names for the layers.
func TestWays(t *testing.T) {
	for _, c := range []struct {
		layer string
		ways  []string
	}{
		{"span", []string{"array", "range over two values", "method value", "variadic"}},
		{"sight", []string{"map from structs", "structs compared", "closure", "range over a value", "function field"}},
		{"transit", []string{"range over a value", "range over two values", "closure", "generic function", "method expression"}},
		{"ball", []string{"iota", "function field", "array", "array by numbers", "range over two values", "closure"}},
		{"gun", []string{"range over a value", "label", "closure", "structs compared"}},
		{"rate", []string{"range over a value", "closure that calls itself", "generic function", "map from names"}},
		{"flag", []string{"iota behind a constant", "range over a value", "range over an integer", "map from numbers", "closure", "closure that calls itself"}},
		{"night", []string{"map from numbers", "map from structs", "structs compared", "range over two values", "closure", "method value"}},
		{"ledger", []string{"map from structs", "structs compared", "range over two values", "range over a map", "closure", "function handed on", "variadic"}},
		{"station", []string{"interface", "call through an interface", "map from names", "method expression", "embedding", "promoted field", "panic of a type", "deferred recover with a type switch"}},
	} {
		found := waysOf(t, c.layer)
		for _, way := range c.ways {
			if !slices.Contains(found, way) {
				t.Error(c.layer, "has no", way)
			}
		}
	}
}

// names are what a package declares, as far as ways are told by it.
type names struct {
	structs, arrays, methods, maps []string
	mapTypes                       []string          // those from structs; maps are what has such a type
	constants                      []string          // of the package level, whole numbers
	makers                         []string          // functions that return a struct alone
	iterators                      map[string]string // with the type of iterator that they return
	types                          []string
	asked                          []string            // methods of interfaces
	fields                         map[string][]string // of structs, by their names
	embeds                         map[string]string   // structs, with a type that they embed
}

func waysOf(t *testing.T, layer string) []string {
	t.Helper()
	declared := names{iterators: map[string]string{}, fields: map[string][]string{}, embeds: map[string]string{}}
	var files []*ast.File
	for _, s := range sources(t) {
		if s.folder == layer {
			files = append(files, s.file)
		}
		if s.folder == "api" {
			ast.Inspect(s.file, func(n ast.Node) bool { declared.note(n); return true })
		}
	}
	// Twice: a map's key may be declared behind the map.
	for range 2 {
		for _, f := range files {
			ast.Inspect(f, func(n ast.Node) bool { declared.note(n); return true })
		}
	}
	var found []string
	for _, f := range files {
		called := map[ast.Node]bool{}
		ast.Inspect(f, func(n ast.Node) bool {
			if c, ok := n.(*ast.CallExpr); ok {
				called[c.Fun] = true
			}
			if n != nil {
				found = append(found, declared.way(n, called[n]))
			}
			return true
		})
	}
	return found
}

func (d *names) note(n ast.Node) {
	switch x := n.(type) {
	case *ast.TypeSpec:
		d.types = append(d.types, x.Name.Name)
		if s, ok := x.Type.(*ast.StructType); ok {
			d.structs = append(d.structs, x.Name.Name)
			d.noteFields(x.Name.Name, s)
		}
		if a, ok := x.Type.(*ast.ArrayType); ok && a.Len != nil {
			d.arrays = append(d.arrays, x.Name.Name)
		}
		if d.fromStructs(x.Type) {
			d.mapTypes = append(d.mapTypes, x.Name.Name)
		}
	case *ast.InterfaceType:
		for _, f := range x.Methods.List {
			for _, name := range f.Names {
				d.asked = append(d.asked, name.Name)
			}
		}
	case *ast.Field:
		if d.fromStructs(x.Type) && len(x.Names) > 0 {
			d.maps = append(d.maps, x.Names[0].Name)
		}
	case *ast.GenDecl:
		if x.Tok == token.CONST {
			d.noteConstants(x)
		}
	case *ast.FuncDecl:
		if x.Recv != nil {
			d.methods = append(d.methods, x.Name.Name)
		}
		if x.Type.Results == nil {
			return
		}
		if l := x.Type.Results.List; len(l) == 1 && d.isStruct(l[0].Type) {
			d.makers = append(d.makers, x.Name.Name)
		}
		for _, r := range x.Type.Results.List {
			if kind := iterator(r.Type); kind != "" {
				d.iterators[x.Name.Name] = kind
			}
		}
	}
}

func (d *names) noteFields(name string, s *ast.StructType) {
	for _, f := range s.Fields.List {
		for _, field := range f.Names {
			d.fields[name] = append(d.fields[name], field.Name)
		}
		if of, ok := f.Type.(*ast.Ident); ok && len(f.Names) == 0 {
			d.embeds[name] = of.Name
		}
	}
}

func (d *names) noteConstants(x *ast.GenDecl) {
	number := false
	for _, spec := range x.Specs {
		v := spec.(*ast.ValueSpec)
		if len(v.Values) == 1 { // a line without a value repeats the one above it
			number = d.isWhole(v.Values[0])
		}
		if number {
			d.constants = append(d.constants, v.Names[0].Name)
		}
	}
}

// isWhole reports whether a value is made of whole numbers, iota and constants of such.
func (d *names) isWhole(value ast.Expr) bool {
	switch x := value.(type) {
	case *ast.BasicLit:
		return x.Kind == token.INT
	case *ast.Ident:
		return x.Name == "iota" || slices.Contains(d.constants, x.Name)
	case *ast.BinaryExpr:
		return d.isWhole(x.X) && d.isWhole(x.Y)
	}
	return false
}

// isBehind reports whether a value is iota behind a constant.
func (d *names) isBehind(x *ast.BinaryExpr) bool {
	of, ok := x.X.(*ast.Ident)
	by, also := x.Y.(*ast.Ident)
	return ok && also && x.Op == token.ADD && slices.Contains(d.constants, of.Name) && by.Name == "iota"
}

// fromStructs reports whether a type is a map from structs.
func (d *names) fromStructs(t ast.Expr) bool {
	switch x := t.(type) {
	case *ast.MapType:
		return d.isStruct(x.Key)
	case *ast.Ident:
		return slices.Contains(d.mapTypes, x.Name)
	}
	return false
}

// isMap reports whether a value is a map from structs.
func (d *names) isMap(value ast.Expr) bool {
	switch x := value.(type) {
	case *ast.Ident:
		return slices.Contains(d.maps, x.Name)
	case *ast.SelectorExpr:
		return slices.Contains(d.maps, x.Sel.Name)
	}
	return false
}

// isStruct reports whether a type is a struct of the package's own or of package api.
func (d *names) isStruct(t ast.Expr) bool {
	switch x := t.(type) {
	case *ast.Ident:
		return slices.Contains(d.structs, x.Name)
	case *ast.SelectorExpr:
		of, ok := x.X.(*ast.Ident)
		return ok && of.Name == "api" && slices.Contains(d.structs, x.Sel.Name)
	}
	return false
}

// makesStruct reports whether a value is what a function returns that returns a struct alone.
func (d *names) makesStruct(value ast.Expr) bool {
	c, ok := value.(*ast.CallExpr)
	if !ok {
		return false
	}
	f, ok := c.Fun.(*ast.Ident)
	return ok && slices.Contains(d.makers, f.Name)
}

func hasKeys(x *ast.CompositeLit) bool {
	for _, item := range x.Elts {
		if _, ok := item.(*ast.KeyValueExpr); !ok {
			return false
		}
	}
	return len(x.Elts) > 0
}

// callsItself reports whether a closure is assigned to a variable, and calls that.
func callsItself(x *ast.AssignStmt) bool {
	to, named := x.Lhs[0].(*ast.Ident)
	f, closed := x.Rhs[0].(*ast.FuncLit)
	if !named || !closed {
		return false
	}
	found := false
	ast.Inspect(f, func(n ast.Node) bool {
		if c, ok := n.(*ast.CallExpr); ok {
			of, ok := c.Fun.(*ast.Ident)
			found = found || ok && of.Name == to.Name
		}
		return true
	})
	return found
}

// iterator returns Seq or Seq2 where a type is such, of package iter.
func iterator(t ast.Expr) string {
	switch x := t.(type) {
	case *ast.IndexExpr:
		return iterator(x.X)
	case *ast.IndexListExpr:
		return iterator(x.X)
	case *ast.SelectorExpr:
		if of, ok := x.X.(*ast.Ident); ok && of.Name == "iter" {
			return x.Sel.Name
		}
	}
	return ""
}

// way returns the way that a node is, or the empty string.
func (d *names) way(n ast.Node, called bool) string {
	switch x := n.(type) {
	case *ast.Ident:
		if x.Name == "iota" {
			return "iota"
		}
	case *ast.ArrayType:
		if x.Len != nil {
			return "array"
		}
	case *ast.CompositeLit: // its items stand behind their numbers
		if t, ok := x.Type.(*ast.Ident); ok && slices.Contains(d.arrays, t.Name) && hasKeys(x) {
			return "array by numbers"
		}
	case *ast.FuncLit:
		return "closure"
	case *ast.LabeledStmt:
		return "label"
	case *ast.BinaryExpr:
		if d.isBehind(x) {
			return "iota behind a constant"
		}
		if (x.Op == token.EQL || x.Op == token.NEQ) && d.makesStruct(x.X) && d.makesStruct(x.Y) {
			return "structs compared"
		}
	case *ast.MapType:
		if d.fromStructs(x) {
			return "map from structs"
		}
		if key, ok := x.Key.(*ast.Ident); ok && key.Name == "string" {
			return "map from names"
		} else if ok && key.Name == "int" {
			return "map from numbers"
		}
	case *ast.AssignStmt:
		if callsItself(x) {
			return "closure that calls itself"
		}
	case *ast.IndexExpr: // a map holds its keys against each other
		if d.isMap(x.X) {
			return "structs compared"
		}
	case *ast.Ellipsis:
		return "variadic"
	case *ast.SelectorExpr:
		return d.selected(x, called)
	case *ast.FuncDecl:
		if x.Type.TypeParams != nil {
			return "generic function"
		}
		if takesFunction(x) {
			return "function handed on"
		}
		if d.promotes(x) {
			return "promoted field"
		}
	case *ast.StructType:
		for _, f := range x.Fields.List {
			if len(f.Names) == 0 {
				return "embedding"
			}
			if _, ok := f.Type.(*ast.FuncType); ok {
				return "function field"
			}
		}
	case *ast.InterfaceType:
		if len(x.Methods.List) > 0 {
			return "interface"
		}
	case *ast.CallExpr:
		if d.panics(x) {
			return "panic of a type"
		}
	case *ast.DeferStmt:
		if recovers(x) {
			return "deferred recover with a type switch"
		}
	case *ast.RangeStmt:
		return d.ranged(x.X)
	}
	return ""
}

func takesFunction(x *ast.FuncDecl) bool {
	return slices.ContainsFunc(x.Type.Params.List, func(f *ast.Field) bool {
		_, ok := f.Type.(*ast.FuncType)
		return ok
	})
}

// promotes reports whether a method uses a field that its receiver has from what it embeds.
func (d *names) promotes(x *ast.FuncDecl) bool {
	if x.Recv == nil || len(x.Recv.List[0].Names) == 0 {
		return false
	}
	receiver := x.Recv.List[0]
	promoted := d.fields[d.embeds[typeName(receiver.Type)]]
	found := false
	ast.Inspect(x.Body, func(n ast.Node) bool {
		if s, ok := n.(*ast.SelectorExpr); ok {
			of, ok := s.X.(*ast.Ident)
			found = found || ok && of.Name == receiver.Names[0].Name && slices.Contains(promoted, s.Sel.Name)
		}
		return true
	})
	return found
}

// typeName returns the name of a type, or of what a pointer of its points to.
func typeName(t ast.Expr) string {
	switch x := t.(type) {
	case *ast.ParenExpr:
		return typeName(x.X)
	case *ast.StarExpr:
		return typeName(x.X)
	case *ast.Ident:
		return x.Name
	}
	return ""
}

// panics reports whether a call panics with a value of a type of the package's own.
func (d *names) panics(x *ast.CallExpr) bool {
	if f, ok := x.Fun.(*ast.Ident); !ok || f.Name != "panic" {
		return false
	}
	switch v := x.Args[0].(type) {
	case *ast.CallExpr:
		return slices.Contains(d.types, typeName(v.Fun))
	case *ast.CompositeLit:
		return slices.Contains(d.types, typeName(v.Type))
	}
	return false
}

// recovers reports whether a deferred function literal switches by the type of what it recovers.
func recovers(x *ast.DeferStmt) bool {
	f, ok := x.Call.Fun.(*ast.FuncLit)
	if !ok {
		return false
	}
	found := false
	ast.Inspect(f, func(n ast.Node) bool {
		if s, ok := n.(*ast.TypeSwitchStmt); ok {
			ast.Inspect(s.Assign, func(n ast.Node) bool {
				of, ok := n.(*ast.Ident)
				found = found || ok && of.Name == "recover"
				return true
			})
		}
		return true
	})
	return found
}

func (d *names) selected(x *ast.SelectorExpr, called bool) string {
	if of, ok := x.X.(*ast.Ident); ok && called && slices.Contains(d.asked, x.Sel.Name) && !slices.Contains(d.types, of.Name) {
		return "call through an interface"
	}
	if !slices.Contains(d.methods, x.Sel.Name) {
		return ""
	}
	if slices.Contains(d.structs, typeName(x.X)) {
		return "method expression"
	}
	if !called {
		return "method value"
	}
	return ""
}

func (d *names) ranged(over ast.Expr) string {
	if d.isWhole(over) {
		return "range over an integer"
	}
	if d.isMap(over) {
		return "range over a map"
	}
	c, ok := over.(*ast.CallExpr)
	if !ok {
		return ""
	}
	var name string
	switch f := c.Fun.(type) {
	case *ast.Ident:
		name = f.Name
	case *ast.SelectorExpr:
		name = f.Sel.Name
	}
	switch d.iterators[name] {
	case "Seq":
		return "range over a value"
	case "Seq2":
		return "range over two values"
	}
	return ""
}
