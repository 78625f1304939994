package types_test

import (
	"reflect"
	"testing"

	"metronome/api"
	"metronome/faults"
	"metronome/parse"
	"metronome/show"
	"metronome/tree"
	"metronome/types"
)

// typed is a program with types, and env variables of them.
var (
	typed = api.Program{Enums: []api.Enum{{Name: "t", Ctors: []string{"A", "B"}}, {Name: "u", Ctors: []string{"C"}}}}
	env   = []api.Var{{Name: "n", T: intT}, {Name: "m", T: intT, Last: true}, {Name: "c", T: boolT}, {Name: "d", T: boolT, Last: true}, {Name: "e", T: tT}, {Name: "f", T: tT, Last: true}, {Name: "o", T: uT, Last: true}}
)

func expr(t *testing.T, s string) api.Expr {
	t.Helper()
	e, err := parse.Expr(s)
	if err != nil {
		t.Fatalf("%s: %v", s, err)
	}
	place(&e)
	return e
}

// holdType holds expressions to have a type.
func holdType(t *testing.T, want api.Type, texts ...string) {
	t.Helper()
	for _, s := range texts {
		if got, err := types.Expr(typed, env, expr(t, s)); got != want || err != nil {
			t.Errorf("%s: %v, %v, want %v", s, got, err, want)
		}
	}
}

// holdNone holds expressions to have no type, because of one part of each.
func holdNone(t *testing.T, part string, texts ...string) {
	t.Helper()
	for _, s := range texts {
		e := expr(t, s)
		holdNoType(t, s, e, partOf(t, e, part))
	}
}

// partOf is the place of the first part of an expression that is written as a text.
func partOf(t *testing.T, e api.Expr, part string) api.Pos {
	t.Helper()
	at, ok := placeOf(e, expr(t, part))
	if !ok {
		t.Errorf("%s has no part %s", show.Expr(e), part)
	}
	return at
}

func holdNoType(t *testing.T, what string, e api.Expr, at api.Pos) {
	t.Helper()
	if got, err := types.Expr(typed, env, e); got != (api.Type{}) || !reflect.DeepEqual(err, faults.New(api.Typed, at)) {
		t.Errorf("%s: %v, %v, want an error at %v", what, got, err, at)
	}
}

// placeOf is the place of the first part of an expression that is equal to another one; what a part consists of comes ahead of it.
func placeOf(e, part api.Expr) (api.Pos, bool) {
	for _, kid := range e.Kids {
		if at, ok := placeOf(kid, part); ok {
			return at, ok
		}
	}
	return e.At, tree.SameExpr(e, part)
}

// P8.1: constants and variables.
func TestConstantsAndVariables(t *testing.T) {
	holdType(t, intT, "0", "1", "-1", "-2147483648", "n", "m", "last m")
	holdType(t, boolT, "true", "false", "c", "d", "last d")
	holdType(t, tT, "A", "B", "e", "f", "last f")
	holdType(t, uT, "C", "o", "last o")
	p := typed
	p.Enums = append(p.Enums, api.Enum{Name: "v", Ctors: []string{"D", "true"}})
	for _, name := range []string{"D", "true"} {
		if got, err := types.Expr(p, nil, tree.Ctor(name)); got != (api.Type{Kind: api.TEnum, Name: "v"}) || err != nil {
			t.Errorf("%s: %v, %v", name, got, err)
		}
	}
}

// P8.1: operators, each with operands of each type.
func TestOperators(t *testing.T) {
	operands := map[string]api.Type{"n": intT, "c": boolT, "e": tT, "o": uT}
	for op := api.Not; op <= api.Ge; op++ {
		for a, of := range operands {
			one := api.Expr{Kind: api.EUn, Op: op, Kids: []api.Expr{tree.Name(a)}}
			want, ok := answer(op, of)
			if op == api.Not || op == api.Neg {
				holdAnswer(t, one, want, ok)
				continue
			}
			for b := range operands {
				two := api.Expr{Kind: api.EBin, Op: op, Kids: []api.Expr{tree.Name(a), tree.Name(b)}}
				holdAnswer(t, two, want, ok && a == b)
			}
		}
	}
}

// answer is the type of what an operator answers to a type of operands; false: it doesn't take them.
func answer(op byte, of api.Type) (api.Type, bool) {
	switch op {
	case api.Not, api.And, api.Or, api.Xor:
		return boolT, of == boolT
	case api.Neg, api.Add, api.Sub, api.Mul, api.Div, api.Mod:
		return intT, of == intT
	case api.Lt, api.Le, api.Gt, api.Ge:
		return boolT, of == intT
	}
	return boolT, op == api.Eq || op == api.Ne
}

func holdAnswer(t *testing.T, e api.Expr, want api.Type, ok bool) {
	t.Helper()
	place(&e)
	if !ok {
		holdNoType(t, show.Expr(e), e, e.At)
	} else if got, err := types.Expr(typed, env, e); got != want || err != nil {
		t.Errorf("%s: %v, %v, want %v", show.Expr(e), got, err, want)
	}
}

// P8.1: choices, and what is delayed.
func TestChoicesAndDelays(t *testing.T) {
	holdType(t, intT, "if c then n else 1", "0 fby n", "pre n", "n -> 1", "pre (0 fby (1 -> n))", "1 -> if pre c then pre n else last m")
	holdType(t, boolT, "if c then c else d", "true fby c", "pre c", "c -> d", "(false fby c) -> n = pre n")
	holdType(t, tT, "if true then e else A", "A fby e", "pre f", "e -> B")
	holdType(t, uT, "if c = d then o else C", "C fby o", "pre o", "last o -> C")
	holdNone(t, "if n then 1 else 2", "if n then 1 else 2", "(if n then 1 else 2) + 1", "c and (if n then 1 else 2)")
	holdNone(t, "if e then c else d", "if e then c else d")
	holdNone(t, "if c then n else d", "if c then n else d", "(if c then n else d) -> 1")
	holdNone(t, "if c then e else o", "if c then e else o", "pre (if c then e else o)")
	holdNone(t, "if c then c else 1", "if c then c else 1")
	holdNone(t, "if n then c else 1", "if n then c else 1")
	holdNone(t, "0 fby c", "0 fby c", "n + (0 fby c)", "A fby (0 fby c)", "if n then 0 fby c else e")
	holdNone(t, "C fby e", "C fby e")
	holdNone(t, "true fby n", "true fby n", "pre (true fby n)")
	holdNone(t, "n -> c", "n -> c", "(n -> c) -> c")
	holdNone(t, "o -> e", "o -> e", "c -> (o -> e)")
	holdNone(t, "not n", "pre not n", "0 fby (not n)", "0 -> not n", "not n -> 0", "if c then not n else 1", "if c then c else not n", "if not n then e else o")
}

// P8.1: what is sampled: a constructor of its variable's type, and no fby, pre or -> in what is sampled.
func TestSampled(t *testing.T) {
	holdType(t, intT, "n when A(e)", "n when B(f)", "1 when true(c)", "n when false(d)", "n when C(o)", "(n + m) when true(c)", "n when true(c) when false(d)", "last m when true(c)", "0 fby (n when true(c))", "(merge c (true -> 1) (false -> 2)) when A(e)")
	holdType(t, boolT, "c when true(c)", "(n = m) when A(e)", "pre (c when true(d))")
	holdType(t, tT, "e when A(e)", "B when B(e)")
	holdNone(t, "n when A(c)", "n when A(c)", "1 + n when A(c)")
	holdNone(t, "n when true(e)", "n when true(e)", "n when true(e) when true(c)")
	holdNone(t, "n when true(n)", "n when true(n)")
	holdNone(t, "n when A(n)", "n when A(n)")
	holdNone(t, "n when A(o)", "n when A(o)")
	holdNone(t, "n when C(e)", "n when C(e)", "c -> n when C(e)", "n when C(e) -> c when C(e)")
	holdNone(t, "n when D(e)", "n when D(e)")
	holdNone(t, "(pre n) when true(c)", "(pre n) when true(c)", "pre ((pre n) when true(c))")
	holdNone(t, "(0 fby n) when true(c)", "(0 fby n) when true(c)")
	holdNone(t, "(1 -> n) when true(c)", "(1 -> n) when true(c)")
	holdNone(t, "(n + (pre n)) when A(e)", "(n + pre n) when A(e)", "((n + pre n) when A(e)) when true(n)")
	holdNone(t, "(pre n) when A(c)", "(pre n) when A(c)")
	holdNone(t, "not n", "(not n) when D(c)", "(not n) when true(c)", "(pre not n) when true(c)")
}

// P8.1: what is merged: each constructor once, in any order, and values of one type.
func TestMerged(t *testing.T) {
	holdType(t, intT, "merge c (true -> n) (false -> m)", "merge c (false -> 1) (true -> 2)", "merge e (A -> n) (B -> m)", "merge f (B -> pre n) (A -> 0 fby n)", "merge o (C -> n)")
	holdType(t, boolT, "merge e (A -> c) (B -> n = 1)", "merge c (true -> c) (false -> c)")
	holdType(t, tT, "merge o (C -> merge e (A -> A) (B -> B))")
	for _, s := range []string{
		"merge c (true -> n)", "merge c (false -> n)", "merge c (true -> n) (true -> m)", "merge c (true -> n) (false -> n) (true -> n)", "merge c (true -> n) (false -> n) (A -> n)", "merge c (true -> n) (A -> n)",
		"merge e (A -> n)", "merge e (B -> n)", "merge e (A -> n) (A -> n)", "merge e (A -> n) (C -> n)", "merge e (A -> n) (B -> n) (C -> n)", "merge e (A -> n) (B -> n) (B -> n)", "merge e (true -> n) (false -> n)",
		"merge o (A -> n) (B -> n)", "merge o (C -> n) (C -> n)", "merge o (D -> n)", "merge n (A -> n) (B -> n)", "merge n (true -> n) (false -> n)", "merge n (C -> n)",
		"merge c (true -> n) (false -> c)", "merge e (A -> e) (B -> o)", "merge e (A -> 1) (B -> true)", "merge e (A -> 1) (A -> true)",
	} {
		holdNone(t, s, s, "not ("+s+")")
	}
	holdNone(t, "not n", "merge n (C -> not n)", "merge c (true -> not n)", "merge c (true -> n) (false -> not n)", "merge c (true -> not n) (false -> not m)")
}

// P8.1: the kids one by one, and then the expression itself.
func TestFirstOfAnExpression(t *testing.T) {
	holdNone(t, "not n", "(not n) + (- c)", "(- 1) + (not n)", "(not n) = (- c)", "if c and not n then - c else - d", "merge e (A -> 0) (B -> not n)")
	holdNone(t, "- c", "not - c", "- - c", "(1 + - c) when A(n)", "if 1 then - c else not n")
	holdNone(t, "n + c", "n + c", "(n + c) + e", "not (n + c)", "(n + c) = (1 + e)", "n + c = 1 + e")
	holdNone(t, "(n + m) + c", "n + m + c")
	holdNone(t, "e = o", "e = o", "not (e = o)", "(e = o) = n")
	holdNone(t, "(e = e) = 1", "(e = e) = 1")
}

// withVariables are expressions with variables in them, and of each what is wrong about it where none is visible.
func withVariables() map[string]string {
	return map[string]string{
		"n": "n", "last m": "last m", "1 + n": "n", "pre last m": "last m", "n when A(e)": "n", "1 when A(e)": "1 when A(e)", "0 fby (1 when true(c))": "1 when true(c)",
		"merge o (C -> 1)": "merge o (C -> 1)", "merge o (C -> n)": "n", "- merge c (true -> 1) (false -> 2)": "merge c (true -> 1) (false -> 2)", "if c then n else m": "c", "(1 when A(e)) + n": "1 when A(e)",
	}
}

// P8.2: first values have no variables, wherever they stand; whatever else they are, they have the type of their variable.
func TestFirstValuesAsExpressions(t *testing.T) {
	text := "type t = A | B; type u = C; node f(n: int; last m: int = 0; c: bool; e: t; o: u) returns (last x: int = 0) var last y: int = 0; let x = 1; y = 2; reset var last z: int = 0; do z = 3; every true; tel"
	for _, first := range []func(n *api.Node) *api.Expr{
		func(n *api.Node) *api.Expr { return &n.Ins[1].First },
		func(n *api.Node) *api.Expr { return &n.Outs[0].First },
		func(n *api.Node) *api.Expr { return &n.B.Vars[0].First },
		func(n *api.Node) *api.Expr { return &n.B.Eqs[2].Arms[0].B.Vars[0].First },
	} {
		p := program(t, text)
		e := first(&p.Nodes[0])
		for s, part := range withVariables() {
			*e = expr(t, s)
			holdError(t, s, p, partOf(t, *e, part))
		}
		*e = expr(t, "1 + true")
		holdError(t, "1 + true", p, e.At)
		for _, s := range []string{"1 + 2", "pre 1", "0 fby 1 -> 2", "if 1 = 2 then 3 else 4"} {
			*e = expr(t, s)
			holdRight(t, s, p)
		}
	}
}

// P8.1: the variables are those that are given, and no others.
func TestVariablesThatAreGiven(t *testing.T) {
	p := program(t, "node f(a: int) returns (b: int) let b = a; tel")
	given := []api.Var{{Name: "a", T: boolT}, {Name: "a", T: intT}, {Name: "b", T: api.Type{Kind: api.TInt, Name: "unused"}, Clock: []api.On{{Ctor: "Nothing", Var: "nothing"}}}}
	for name, want := range map[string]api.Type{"a": boolT, "b": intT} {
		if got, err := types.Expr(p, given, tree.Name(name)); got != want || err != nil {
			t.Errorf("%s: %v, %v", name, got, err)
		}
	}
	if got, err := types.Expr(p, nil, tree.Name("a")); got != (api.Type{}) || !reflect.DeepEqual(err, faults.New(api.Typed, api.Pos{})) {
		t.Errorf("a variable that isn't there: %v, %v", got, err)
	}
}
