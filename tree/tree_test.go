package tree_test

import (
	"math/rand"
	"reflect"
	"slices"
	"strconv"
	"testing"

	"metronome/api"
	"metronome/tree"
)

var (
	a, b, c = tree.Name("a"), tree.Name("b"), tree.Name("c")
	zero    = tree.Int(0)
)

// holdList holds a list against the one that is wanted; nil and empty are one.
func holdList(t *testing.T, what string, got, want []string) {
	t.Helper()
	if !slices.Equal(got, want) {
		t.Errorf("%s = %v, want %v", what, got, want)
	}
}

// P4.1: the number of expressions, and how deeply they are nested.
func TestSizeAndDepth(t *testing.T) {
	for _, x := range []struct {
		e           api.Expr
		size, depth int
	}{
		{api.Expr{}, 1, 1},
		{tree.Int(-3), 1, 1},
		{tree.Bool(true), 1, 1},
		{tree.Ctor("R"), 1, 1},
		{a, 1, 1},
		{last("a"), 1, 1},
		{un(api.Not, a), 2, 2},
		{bin(api.Add, a, bin(api.Mul, b, c)), 5, 3},
		{of(api.EIf, a, un(api.Neg, un(api.Neg, b)), c), 6, 4},
		{of(api.EFby, zero, bin(api.Add, a, b)), 5, 3},
		{of(api.EPre, a), 2, 2},
		{of(api.EArrow, of(api.EPre, of(api.EPre, a)), b), 5, 4},
		{when(a, "R", "v"), 2, 2},
		{merge("v", a, when(b, "G", "v"), c), 5, 3},
		// Both are specified for expressions with any number of kids.
		{of(api.EBin, a), 2, 2},
		{of(api.EBin, a, b, of(api.EPre, c)), 5, 3},
		{of(api.EInt, a, b), 3, 2},
		{of(200, of(api.EVar)), 2, 2},
		{of(api.EIf), 1, 1},
	} {
		if tree.Size(x.e) != x.size || tree.Depth(x.e) != x.depth {
			t.Errorf("%v: size %d, depth %d, want %d, %d", x.e, tree.Size(x.e), tree.Depth(x.e), x.size, x.depth)
		}
	}
}

// P4.1: what counts in a block.
func TestBlockSizeAndDepth(t *testing.T) {
	sum := bin(api.Add, a, b) // 3 expressions, 2 deep
	first := api.Var{Name: "l", T: intT, Last: true, First: sum}
	idle := api.Var{Name: "l", T: intT, First: sum}
	way := api.Trans{E: sum, To: "S"}
	inner := block(own("x"), def("x", sum)) // 1 variable, 1 equation, 3 expressions
	for what, x := range map[string]struct {
		b           api.Block
		size, depth int
	}{
		"empty":            {block(nil), 0, 1},
		"not nil":          {api.Block{Vars: []api.Var{}, Eqs: []api.Equation{}}, 0, 1},
		"variables":        {block(own("x", "y")), 2, 1},
		"last":             {block([]api.Var{first}), 4, 3},
		"no last":          {block([]api.Var{idle}), 1, 1},
		"definition":       {block(nil, def("x", sum)), 4, 3},
		"no arguments":     {block(nil, call("f", []string{"x"})), 1, 1},
		"arguments":        {block(nil, call("f", nil, a, sum)), 5, 3},
		"every":            {block(nil, callEvery(sum, call("f", nil, a))), 5, 3},
		"no every":         {block(nil, api.Equation{Kind: api.QCall, E: sum}), 1, 1},
		"switch":           {block(nil, switches(a, arm("R", inner), arm("G", api.Block{}))), 9, 4},
		"switch of much":   {block(nil, switches(un(api.Not, un(api.Not, sum)), arm("R", api.Block{}))), 7, 5},
		"no arms":          {block(nil, switches(a)), 2, 2},
		"reset":            {block(nil, resets(a, inner)), 8, 4},
		"reset by much":    {block(nil, resets(un(api.Not, un(api.Not, sum)), api.Block{})), 7, 5},
		"automaton":        {block(nil, automaton(arm("S", inner))), 7, 4},
		"unless":           {block(nil, automaton(api.Arm{Name: "S", Unless: []api.Trans{way, way}})), 10, 3},
		"until":            {block(nil, automaton(api.Arm{Name: "S", Until: []api.Trans{way}})), 6, 3},
		"an automaton's E": {block(nil, api.Equation{Kind: api.QAuto, E: sum, Args: []api.Expr{sum}}), 1, 1},
		"a call's arms":    {block(nil, api.Equation{Kind: api.QCall, Arms: []api.Arm{arm("R", inner)}}), 1, 1},
		"three deep":       {block(nil, resets(a, block(nil, resets(b, inner)))), 11, 5},
	} {
		if tree.BlockSize(x.b) != x.size || tree.BlockDepth(x.b) != x.depth {
			t.Errorf("%s: size %d, depth %d, want %d, %d", what, tree.BlockSize(x.b), tree.BlockDepth(x.b), x.size, x.depth)
		}
	}
}

// count counts all that has a size in a value, and the longest chain of expressions and blocks within each other.
func count(v reflect.Value) (size, depth int) {
	switch v.Kind() {
	case reflect.Struct:
		if e, ok := v.Interface().(api.Expr); ok && e.Kind == 0 {
			return 0, 0 // none: a field that is not used
		}
		for i := range v.NumField() {
			s, d := count(v.Field(i))
			size, depth = size+s, max(depth, d)
		}
	case reflect.Slice:
		for i := range v.Len() {
			s, d := count(v.Index(i))
			size, depth = size+s, max(depth, d)
		}
	}
	switch v.Interface().(type) {
	case api.Expr:
		return size + 1, depth + 1
	case api.Block:
		return size, depth + 1
	case api.Var, api.Equation, api.Arm, api.Trans:
		return size + 1, depth
	}
	return size, depth
}

// P4.1: sizes and depths, counted once more by looking at what values there are.
func TestMeasuresByCounting(t *testing.T) {
	for seed := range int64(400) {
		m := maker{rand.New(rand.NewSource(seed))}
		e := m.expr(1 + m.Intn(6))
		size, depth := count(reflect.ValueOf(e))
		if tree.Size(e) != size || tree.Depth(e) != depth {
			t.Errorf("%v: size %d, depth %d, want %d, %d", e, tree.Size(e), tree.Depth(e), size, depth)
		}
		b := m.block(1 + m.Intn(4))
		size, depth = count(reflect.ValueOf(b))
		if tree.BlockSize(b) != size || tree.BlockDepth(b) != depth {
			t.Errorf("%v: size %d, depth %d, want %d, %d", b, tree.BlockSize(b), tree.BlockDepth(b), size, depth)
		}
	}
}

// P4.2: what an expression reads at once, and what at all.
func TestReadsAndAll(t *testing.T) {
	for _, x := range []struct {
		e          api.Expr
		reads, all []string
	}{
		{bin(api.Add, a, of(api.EFby, zero, b)), []string{"a"}, []string{"a", "b"}}, // the chapter's example
		{api.Expr{}, nil, nil},
		{zero, nil, nil},
		{tree.Bool(true), nil, nil},
		{tree.Ctor("R"), nil, nil},
		{a, []string{"a"}, []string{"a"}},
		{last("a"), nil, nil},
		{un(api.Neg, a), []string{"a"}, []string{"a"}},
		{bin(api.Add, b, bin(api.Sub, a, b)), []string{"b", "a"}, []string{"b", "a"}},
		{of(api.EIf, c, a, b), []string{"c", "a", "b"}, []string{"c", "a", "b"}},
		{of(api.EFby, a, b), []string{"a"}, []string{"a", "b"}},
		{bin(api.Add, of(api.EFby, zero, b), bin(api.Add, a, b)), []string{"a", "b"}, []string{"b", "a"}},
		{of(api.EFby, of(api.EPre, a), b), nil, []string{"a", "b"}},
		{of(api.EPre, a), nil, []string{"a"}},
		{of(api.EPre, when(a, "R", "b")), nil, []string{"a", "b"}},
		{of(api.EArrow, b, a), []string{"b", "a"}, []string{"b", "a"}},
		{of(api.EArrow, zero, of(api.EPre, a)), nil, []string{"a"}},
		{when(a, "R", "b"), []string{"a", "b"}, []string{"a", "b"}},
		{when(of(api.EPre, a), "R", "b"), []string{"b"}, []string{"a", "b"}},
		{when(when(zero, "R", "b"), "G", "a"), []string{"b", "a"}, []string{"b", "a"}},
		{merge("c", b, a), []string{"c", "b", "a"}, []string{"c", "b", "a"}},
		{merge("c", when(a, "R", "c"), of(api.EFby, zero, b)), []string{"c", "a"}, []string{"c", "a", "b"}},
		{merge("c"), []string{"c"}, []string{"c"}},
	} {
		holdList(t, "Reads", tree.Reads(x.e), x.reads)
		holdList(t, "All", tree.All(x.e), x.all)
	}
}

// P4.2: the last values that are read, each ahead of those of its kids.
func TestLasts(t *testing.T) {
	odd := last("x") // specified for all expressions, also for one with kids that it can't have
	odd.Kids = []api.Expr{last("y"), last("x")}
	for _, x := range []struct {
		e    api.Expr
		want []string
	}{
		{api.Expr{}, nil},
		{a, nil},
		{last("a"), []string{"a"}},
		{bin(api.Add, last("b"), bin(api.Mul, last("a"), last("b"))), []string{"b", "a"}},
		{of(api.EFby, zero, last("a")), []string{"a"}},
		{of(api.EPre, merge("v", last("b"), when(last("a"), "R", "v"))), []string{"b", "a"}},
		{odd, []string{"x", "y"}},
		{of(api.EInt, last("a")), []string{"a"}},
	} {
		holdList(t, "Lasts", tree.Lasts(x.e), x.want)
	}
}

// P4.2: which kinds make an expression keep a state, and which are constants.
func TestStatelessAndConst(t *testing.T) {
	for kind := range byte(20) {
		e := of(kind, a, a, a)
		holds := kind == api.EFby || kind == api.EPre || kind == api.EArrow
		for range 3 {
			if tree.Stateless(e) == holds {
				t.Errorf("kind %d: Stateless %v", kind, !holds)
			}
			e = of(api.EIf, a, a, e)
		}
		bare := api.Expr{Kind: kind}
		if want := kind == api.EInt || kind == api.EBool || kind == api.ECtor; tree.Const(bare) != want {
			t.Errorf("kind %d: Const %v", kind, !want)
		}
	}
	if tree.Const(un(api.Neg, tree.Int(1))) || !tree.Stateless(last("x")) {
		t.Error("a sum is a constant, or a last value a state of its own")
	}
}

// P4.3: the variables that equations and blocks define.
func TestDefines(t *testing.T) {
	xy := block(nil, def("x", zero), def("y", zero))
	yz := block(own("x"), def("y", zero), def("x", zero), def("z", zero))
	nested := block(own("y"), switches(a, arm("R", xy), arm("G", yz)), def("w", zero))
	for what, x := range map[string]struct {
		q    api.Equation
		want []string
	}{
		"zero":             {api.Equation{}, nil},
		"definition":       {def("x", a), []string{"x"}},
		"call":             {call("f", []string{"y", "x", "y"}), []string{"y", "x"}},
		"call for nothing": {call("f", nil), nil},
		"switch":           {switches(a, arm("R", xy), arm("G", yz)), []string{"x", "y", "z"}},
		"own of one arm":   {switches(a, arm("R", yz), arm("G", xy)), []string{"y", "z", "x"}},
		"automaton":        {automaton(arm("S", yz), arm("T", nested)), []string{"y", "z", "x", "w"}},
		"reset":            {resets(a, nested), []string{"x", "z", "w"}},
		"a call's arms":    {api.Equation{Kind: api.QCall, Lhs: []string{"x"}, Arms: []api.Arm{arm("R", yz)}}, []string{"x"}},
		"a switch's left":  {api.Equation{Kind: api.QSwitch, Lhs: []string{"w"}, Arms: []api.Arm{arm("R", yz)}}, []string{"y", "z"}},
	} {
		holdList(t, what, tree.Defines(x.q), x.want)
	}
	holdList(t, "no block", tree.BlockDefines(api.Block{}), nil)
	holdList(t, "a block", tree.BlockDefines(block(own("v"), def("x", a), def("v", a), def("x", a))), []string{"x"})
	holdList(t, "blocks within", tree.BlockDefines(block(own("z"), resets(a, nested), def("y", a))), []string{"x", "w", "y"})
}

// P4.3: the nodes that a block calls.
func TestCalls(t *testing.T) {
	inner := block(nil, call("g", nil), resets(a, block(nil, call("f", nil), call("h", nil))), call("i", nil))
	holdList(t, "none", tree.Calls(api.Block{}), nil)
	holdList(t, "none", tree.Calls(block(nil, api.Equation{Kind: api.QDef, Lhs: []string{"x"}, Name: "f"})), nil)
	holdList(t, "some", tree.Calls(block(nil, call("f", nil), def("x", a), call("e", nil), call("f", nil))), []string{"f", "e"})
	holdList(t, "within", tree.Calls(block(nil, call("j", nil), switches(a, arm("R", inner), arm("G", block(nil, call("k", nil)))), call("l", nil))), []string{"j", "g", "f", "h", "i", "k", "l"})
	holdList(t, "states", tree.Calls(block(nil, automaton(arm("S", inner)))), []string{"g", "f", "h", "i"})
}

// P4.3: the first of a name.
func TestFind(t *testing.T) {
	vars := own("x", "y", "x")
	p := api.Program{Nodes: []api.Node{{Name: "f"}, {Name: "g"}, {Name: "f"}, {Name: ""}}}
	for name, want := range map[string]int{"x": 0, "y": 1, "z": -1, "": -1} {
		if got := tree.Find(vars, name); got != want {
			t.Errorf("Find %q = %d", name, got)
		}
	}
	for name, want := range map[string]int{"f": 0, "g": 1, "h": -1, "": 3} {
		if got := tree.FindNode(p, name); got != want {
			t.Errorf("FindNode %q = %d", name, got)
		}
	}
	for name, want := range map[string]int{"hue": 0, "key": 1, "R": -1} {
		if got := tree.FindEnum(hues, name); got != want {
			t.Errorf("FindEnum %q = %d", name, got)
		}
	}
	for name, want := range map[string]int{"R": 0, "B": 0, "A": 1, "X": 2, "hue": -1, "true": -1, "": -1} {
		if got := tree.CtorEnum(hues, name); got != want {
			t.Errorf("CtorEnum %q = %d", name, got)
		}
	}
	if tree.Find(nil, "x") != -1 || tree.FindNode(api.Program{}, "x") != -1 || tree.FindEnum(nil, "x") != -1 || tree.CtorEnum([]api.Enum{}, "x") != -1 {
		t.Error("something among nothing")
	}
}

// P4.3: the constructors of a type are a list of their own.
func TestCtors(t *testing.T) {
	holdList(t, "bool", tree.Ctors(hues, boolT), []string{"false", "true"})
	holdList(t, "bool", tree.Ctors(nil, boolT), []string{"false", "true"})
	holdList(t, "int", tree.Ctors(hues, intT), nil)
	holdList(t, "hue", tree.Ctors(hues, hueT), []string{"R", "G", "B"})
	holdList(t, "unknown", tree.Ctors(hues, api.Type{Kind: api.TEnum, Name: "no"}), nil)
	holdList(t, "of no types", tree.Ctors(nil, hueT), nil)
	holdList(t, "no type", tree.Ctors(hues, api.Type{Name: "hue"}), nil)
	holdList(t, "an int by a type's name", tree.Ctors(hues, api.Type{Kind: api.TInt, Name: "hue"}), nil)
	tree.Ctors(hues, hueT)[0] = "changed"
	tree.Ctors(nil, boolT)[0] = "changed"
	holdList(t, "hue again", tree.Ctors(hues, hueT), []string{"R", "G", "B"})
	holdList(t, "bool again", tree.Ctors(nil, boolT), []string{"false", "true"})
}

// P4.3: the numbers of constants.
func TestValue(t *testing.T) {
	for _, x := range []struct {
		e  api.Expr
		n  int32
		ok bool
	}{
		{tree.Int(-1 << 31), -1 << 31, true},
		{tree.Int(7), 7, true},
		{tree.Bool(false), 0, true},
		{tree.Bool(true), 1, true},
		{tree.Ctor("R"), 0, true},
		{tree.Ctor("B"), 2, true}, // of the first type that has it
		{tree.Ctor("C"), 2, true},
		{tree.Ctor("X"), 0, true},
		{tree.Ctor("no"), 0, false},
		{tree.Ctor("true"), 0, false},
		{tree.Name("R"), 0, false},
		{last("R"), 0, false},
		{un(api.Neg, tree.Int(1)), 0, false},
		{api.Expr{Kind: api.EVar, N: 5}, 0, false},
		{api.Expr{N: 5}, 0, false},
	} {
		if n, ok := tree.Value(hues, x.e); n != x.n || ok != x.ok {
			t.Errorf("%v: %d, %v, want %d, %v", x.e, n, ok, x.n, x.ok)
		}
	}
	if n, ok := tree.Value(nil, tree.Ctor("R")); n != 0 || ok {
		t.Error("a constructor of no type")
	}
}

// P4.3: what the constructors of expressions put where.
func TestMade(t *testing.T) {
	sum := bin(api.Add, a, b)
	for _, x := range []struct{ got, want api.Expr }{
		{tree.Int(-5), api.Expr{Kind: api.EInt, N: -5}},
		{tree.Bool(false), api.Expr{Kind: api.EBool}},
		{tree.Bool(true), api.Expr{Kind: api.EBool, N: 1}},
		{tree.Ctor("R"), api.Expr{Kind: api.ECtor, Name: "R"}},
		{tree.Name("x"), api.Expr{Kind: api.EVar, Name: "x"}},
		{tree.Pick(boolT, "true"), tree.Bool(true)},
		{tree.Pick(boolT, "false"), tree.Bool(false)},
		{tree.Pick(boolT, "R"), tree.Bool(false)},
		{tree.Pick(hueT, "R"), tree.Ctor("R")},
		{tree.Pick(hueT, "true"), tree.Ctor("true")},
		{tree.Pick(intT, "R"), tree.Ctor("R")},
		{tree.Pick(api.Type{}, ""), tree.Ctor("")},
		{tree.When(sum, api.On{Ctor: "R", Var: "v"}), api.Expr{Kind: api.EWhen, Name: "v", Names: []string{"R"}, Kids: []api.Expr{sum}}},
	} {
		if !reflect.DeepEqual(x.got, x.want) {
			t.Errorf("%v, want %v", x.got, x.want)
		}
	}
}

// P1: nothing and much are no reasons to stop.
func TestNothingAndMuch(t *testing.T) {
	deep, wide := a, of(api.EIf)
	for range 100000 {
		deep = un(api.Not, deep)
		wide.Kids = append(wide.Kids, last("l"), a)
	}
	if tree.Size(deep) != 100001 || tree.Depth(deep) != 100001 || !tree.SameExpr(deep, deep) || !tree.Stateless(deep) {
		t.Error("a deep expression")
	}
	holdList(t, "deep", tree.All(deep), []string{"a"})
	holdList(t, "wide", tree.Reads(wide), []string{"a"})
	holdList(t, "wide", tree.Lasts(wide), []string{"l"})
	many := api.Block{}
	for i := range 60000 {
		name := "v" + strconv.Itoa(i)
		many.Vars = append(many.Vars, api.Var{Name: name})
		many.Eqs = append(many.Eqs, def(name, a), def(name+"_", a))
	}
	if got := tree.BlockDefines(many); len(got) != 60000 {
		t.Errorf("%d variables", len(got))
	}
	for _, e := range []api.Expr{{}, {Kids: []api.Expr{}}, {Kind: 255, Names: []string{}}} {
		if len(tree.Reads(e))+len(tree.All(e))+len(tree.Lasts(e)) != 0 || !tree.Stateless(e) || tree.Const(e) {
			t.Errorf("%v", e)
		}
	}
}

// The document's rules: arguments stay as they are, and P2: the same call has the same result.
func TestArgumentsStay(t *testing.T) {
	for seed := range int64(100) {
		q, r := maker{rand.New(rand.NewSource(seed))}.block(4), maker{rand.New(rand.NewSource(seed))}.block(4)
		defined, called := tree.BlockDefines(q), tree.Calls(q)
		sizes := []int{tree.BlockSize(q), tree.BlockDepth(q)}
		if !tree.SameBlock(q, r) || !reflect.DeepEqual(q, r) {
			t.Fatalf("%v has become %v", r, q)
		}
		for _, q := range q.Eqs {
			tree.Defines(q)
			tree.All(q.E)
		}
		if !reflect.DeepEqual(q, r) || !slices.Equal(defined, tree.BlockDefines(q)) || !slices.Equal(called, tree.Calls(q)) || sizes[0] != tree.BlockSize(r) || sizes[1] != tree.BlockDepth(r) {
			t.Fatalf("%v: another result", q)
		}
	}
}
