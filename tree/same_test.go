package tree_test

import (
	"math/rand"
	"reflect"
	"slices"
	"testing"

	"metronome/api"
	"metronome/tree"
)

// The values below have something in every field, used by their kind or not: equality asks for all of them but At.

func fullExpr() api.Expr {
	kid := api.Expr{Kind: api.EMerge, Op: api.Sub, N: 7, Name: "m", Names: []string{"C", "D"}, Kids: []api.Expr{{Kind: api.EInt, N: 1}, {Kind: api.EVar, Name: "y"}}, At: api.Pos{Line: 3, Col: 4}}
	return api.Expr{Kind: api.EBin, Op: api.Add, N: 5, Name: "x", Names: []string{"A", "B"}, Kids: []api.Expr{kid, {Kind: api.EInt, N: 2}}, At: api.Pos{Line: 1, Col: 2}}
}

func fullVar() api.Var {
	return api.Var{Name: "v", T: hueT, Clock: []api.On{{Ctor: "C", Var: "w"}, {Ctor: "D", Var: "u"}}, Last: true, First: fullExpr(), At: api.Pos{Line: 5, Col: 6}}
}

func fullTrans() api.Trans {
	return api.Trans{E: fullExpr(), To: "S", Resume: true, At: api.Pos{Line: 7, Col: 8}}
}

func fullEq(inner api.Block) api.Equation {
	ways := []api.Trans{fullTrans(), {To: "T"}}
	return api.Equation{
		Kind: api.QCall, Lhs: []string{"a", "b"}, Name: "f", Args: []api.Expr{fullExpr(), {Kind: api.EVar}}, Has: true, E: fullExpr(),
		Arms: []api.Arm{{Name: "A", B: inner, Unless: ways, Until: slices.Clone(ways), At: api.Pos{Line: 9, Col: 1}}, {Name: "B"}},
		At:   api.Pos{Line: 2, Col: 2},
	}
}

func fullBlock() api.Block {
	inner := api.Block{Vars: []api.Var{{Name: "i"}}, Eqs: []api.Equation{{Kind: api.QDef}, {Kind: api.QReset}}}
	return api.Block{Vars: []api.Var{fullVar(), {Name: "j"}}, Eqs: []api.Equation{fullEq(inner), {Kind: api.QAuto}}}
}

func fullNode() api.Node {
	return api.Node{Name: "n", Ins: []api.Var{fullVar(), {Name: "k"}}, Outs: []api.Var{fullVar(), {Name: "l"}}, B: fullBlock(), At: api.Pos{Line: 4, Col: 4}}
}

func fullProgram() api.Program {
	return api.Program{Enums: []api.Enum{{Name: "t", Ctors: []string{"A", "B"}, At: api.Pos{Line: 6, Col: 6}}, {Name: "u"}}, Nodes: []api.Node{fullNode(), {Name: "o"}}}
}

// vary changes v in one thing at a time, each field and each list in it, however deep; it tells each change by its path, and whether it is one of a place alone.
func vary(v reflect.Value, path string, at bool, told func(path string, at bool)) {
	old := reflect.New(v.Type()).Elem()
	old.Set(v)
	switch v.Kind() {
	case reflect.Struct:
		for i := range v.NumField() {
			name := v.Type().Field(i).Name
			vary(v.Field(i), path+"."+name, at || name == "At", told)
		}
		return
	case reflect.Slice:
		for i := range v.Len() {
			vary(v.Index(i), path+"[]", at, told)
		}
		varyList(v, path, at, told)
	case reflect.String:
		v.SetString(v.String() + "z")
		told(path, at)
	case reflect.Bool:
		v.SetBool(!v.Bool())
		told(path, at)
	case reflect.Uint8:
		v.SetUint(v.Uint() + 1)
		told(path, at)
	default:
		v.SetInt(v.Int() + 1)
		told(path, at)
	}
	v.Set(old)
}

// varyList makes a list shorter at each end, longer, and turns it round.
func varyList(v reflect.Value, path string, at bool, told func(path string, at bool)) {
	old := reflect.New(v.Type()).Elem()
	old.Set(v)
	n := old.Len()
	longer := reflect.MakeSlice(v.Type(), n, n+1)
	reflect.Copy(longer, old)
	v.Set(reflect.Append(longer, reflect.Zero(v.Type().Elem())))
	told(path+" longer", at)
	if n > 0 {
		v.Set(old.Slice(0, n-1))
		told(path+" shorter", at)
		v.Set(old.Slice(1, n))
		told(path+" without its first", at)
	}
	if n > 1 {
		turned := reflect.MakeSlice(v.Type(), 0, n)
		for i := range n {
			turned = reflect.Append(turned, old.Index(n-1-i))
		}
		v.Set(turned)
		told(path+" turned round", at)
	}
	v.Set(old)
}

// holdSame asks a function of equality for each single change of a value.
func holdSame[T any](t *testing.T, full func() T, same func(a, b T) bool) {
	t.Helper()
	a, b := full(), full()
	if !same(a, b) {
		t.Errorf("%T: not equal to itself", a)
	}
	seen := map[string]bool{}
	vary(reflect.ValueOf(&b).Elem(), reflect.TypeFor[T]().Name(), false, func(path string, at bool) {
		seen[path] = true
		if same(a, b) != at || same(b, a) != at {
			t.Errorf("%s: equal %v, want %v", path, same(a, b), at)
		}
	})
	if !reflect.DeepEqual(a, b) || len(seen) < 4 {
		t.Errorf("%T: the test itself has gone wrong", a)
	}
	var zero T
	if same(a, zero) || same(zero, a) || !same(zero, zero) {
		t.Errorf("%T: a zero value", a)
	}
}

// P4.1: equal in all fields but At, whatever is nested in them.
func TestSameFieldByField(t *testing.T) {
	holdSame(t, fullExpr, tree.SameExpr)
	holdSame(t, fullVar, tree.SameVar)
	holdSame(t, func() api.Equation { return fullEq(fullBlock()) }, tree.SameEq)
	holdSame(t, fullBlock, tree.SameBlock)
	holdSame(t, fullNode, tree.SameNode)
	holdSame(t, fullProgram, tree.Same)
}

// emptied puts an empty list for each that is nil.
func emptied(v reflect.Value) {
	switch v.Kind() {
	case reflect.Struct:
		for i := range v.NumField() {
			emptied(v.Field(i))
		}
	case reflect.Slice:
		if v.IsNil() {
			v.Set(reflect.MakeSlice(v.Type(), 0, 0))
		}
		for i := range v.Len() {
			emptied(v.Index(i))
		}
	}
}

func holdEmptied[T any](t *testing.T, full func() T, same func(a, b T) bool) {
	t.Helper()
	var zero, empty T
	a, b := full(), full()
	emptied(reflect.ValueOf(&b).Elem())
	emptied(reflect.ValueOf(&empty).Elem())
	if !same(a, b) || !same(b, a) || !same(zero, empty) || !same(empty, zero) {
		t.Errorf("%T: nil and empty are not equal", a)
	}
}

// P4.1 and the document's terms: nil and empty are one.
func TestSameNilAndEmpty(t *testing.T) {
	holdEmptied(t, fullExpr, tree.SameExpr)
	holdEmptied(t, fullVar, tree.SameVar)
	holdEmptied(t, func() api.Equation { return fullEq(api.Block{}) }, tree.SameEq)
	holdEmptied(t, fullBlock, tree.SameBlock)
	holdEmptied(t, fullNode, tree.SameNode)
	holdEmptied(t, fullProgram, tree.Same)
}

// unplaced takes all places out of a value.
func unplaced(v reflect.Value) {
	switch v.Kind() {
	case reflect.Struct:
		if v.Type() == reflect.TypeFor[api.Pos]() {
			v.SetZero()
		}
		for i := range v.NumField() {
			unplaced(v.Field(i))
		}
	case reflect.Slice:
		for i := range v.Len() {
			unplaced(v.Index(i))
		}
	}
}

// P4.1: places do not count; values without places are equal when nothing at all differs.
func TestSameWithoutPlaces(t *testing.T) {
	a, b := fullProgram(), fullProgram()
	unplaced(reflect.ValueOf(&b).Elem())
	if reflect.DeepEqual(a, b) || !tree.Same(a, b) {
		t.Error("places count")
	}
	for seed := range int64(300) {
		e, f := maker{rand.New(rand.NewSource(seed))}, maker{rand.New(rand.NewSource(seed / 2))}
		x, y := e.expr(3), f.expr(3)
		if tree.SameExpr(x, y) != reflect.DeepEqual(x, y) {
			t.Errorf("%v and %v: equal %v", x, y, tree.SameExpr(x, y))
		}
		v, w := e.block(3), f.block(3)
		if tree.SameBlock(v, w) != reflect.DeepEqual(v, w) {
			t.Errorf("%v and %v: equal %v", v, w, tree.SameBlock(v, w))
		}
	}
}
