package inits_test

import (
	"slices"
	"strings"
	"testing"

	"metronome/api"
	"metronome/inits"
	"metronome/parse"
)

// found is a block, and its variables that are late. Nothing is asked of their types and clocks.
type found struct{ vars, eqs, want string }

func holdFound(t *testing.T, l []found) {
	t.Helper()
	for _, x := range l {
		b := parsed(t, "node f() returns () var "+x.vars+" let "+x.eqs+" tel").Nodes[0].B
		if got := inits.Late(b); !slices.Equal(got, strings.Fields(x.want)) {
			t.Errorf("%s %s\n%q, want %q", x.vars, x.eqs, got, x.want)
		}
	}
}

func expr(t *testing.T, s string) api.Expr {
	t.Helper()
	e, err := parse.Expr(s)
	if err != nil {
		t.Fatalf("%s: %v", s, err)
	}
	return e
}

// fby stands in no text, where first values are constants.
func fby(first, later api.Expr) api.Expr {
	return api.Expr{Kind: api.EFby, Kids: []api.Expr{first, later}}
}

// P10.1: which expressions are late, where a and b are.
func TestLateExpressions(t *testing.T) {
	hold := func(e api.Expr, s string, want bool) {
		t.Helper()
		p := parsed(t, "node f() returns () var p: int; a: int; b: bool; n: int; last i: bool = true; let n = 1; i = true; a = pre n; b = pre i; tel")
		b := p.Nodes[0].B
		b.Eqs = append(b.Eqs, api.Equation{Kind: api.QDef, Lhs: []string{"p"}, E: e})
		if l := inits.Late(b); slices.Contains(l, "p") != want || slices.Contains(l, "n") || !slices.Contains(l, "a") || !slices.Contains(l, "b") {
			t.Errorf("%s: %q", s, l)
		}
	}
	for _, s := range []string{
		"pre n", "pre 1", "pre last i", "pre (1 -> n)", "pre pre n", "a", "b", "- a", "not b", "- pre n", "a + n", "n + a", "1 = a", "pre n + pre n", "if b then n else n", "if i then a else n", "if i then n else a",
		"a -> n", "pre n -> n", "(a -> n) -> n", "a when true(i)", "n when true(i) + a", "merge i (true -> a) (false -> n)", "merge i (true -> n) (false -> a)", "merge i (true -> n) (false -> pre n when false(i))", "1 + (if i then 2 else - (3 * a))",
	} {
		hold(expr(t, s), s, true)
		hold(fby(expr(t, s), expr(t, "n")), "the first value "+s, true)
		hold(fby(fby(expr(t, s), expr(t, "n")), expr(t, "n")), "the first value of a first value "+s, true)
		hold(fby(expr(t, "1"), expr(t, s)), "later "+s, false)
	}
	for _, s := range []string{
		"1", "true", "A", "n", "i", "last i", "last a", "p", "- n", "n + n", "if i then n else p", "0 fby n", "0 fby a", "0 fby pre n", "0 fby pre a", "n -> n", "n -> a", "0 -> pre n", "(0 -> pre n) + 1", "n -> (a -> b)", "(n -> a) -> a",
		"n when true(b)", "n when A(a)", "merge b (true -> n) (false -> n)", "merge a (A -> 1)", "(0 fby a) when true(b)", "unknown", "0 fby unknown", "merge b (true -> n -> a) (false -> 0 fby a)",
	} {
		hold(expr(t, s), s, false)
		hold(fby(expr(t, s), expr(t, "a")), "the first value "+s, false)
		hold(api.Expr{Kind: api.EPre, Kids: []api.Expr{expr(t, s)}}, "pre "+s, true)
	}
}

// P10.1: the late variables are the smallest set with their property, in the order in which the block declares them.
func TestLateVariables(t *testing.T) {
	holdFound(t, []found{
		{"a: int;", "", ""},
		{"a: int;", "a = 1;", ""},
		{"a: int;", "a = pre 1;", "a"},
		{"a: int;", "a = pre a;", "a"},
		{"a: int;", "a = a;", ""},
		{"a: int;", "a = a + pre a;", "a"},
		{"a: int; b: int;", "a = b; b = a;", ""},
		{"a: int; b: int;", "a = b; b = a + pre 1;", "a b"},
		{"a: int; b: int;", "b = a + pre 1; a = b;", "a b"},
		{"a: int; b: int;", "a = 0 fby b; b = pre a;", "b"},
		{"a: int; b: int;", "b = pre a; a = b -> 1;", "a b"},
		{"c: int; a: int; d: int; b: int;", "a = pre 1; b = a; c = b; d = 2;", "c a b"},
		{"c: int; a: int; d: int; b: int;", "c = b; b = a; a = pre 1; d = 0 -> c;", "c a b"},
		{"a: int; b: int; c: int; d: int; e: int;", "a = b + c; b = d; c = e; d = c; e = pre 1;", "a b c d e"},
		{"a: int; b: int; c: int; d: int; e: int;", "a = b; b = c; c = a; d = e; e = pre d;", "d e"},
		{"last a: int = 0; b: int; c: int;", "a = pre 1; b = last a; c = a;", "a c"},
		{"a: int; w: bool; b: int when true(w);", "w = pre true; b = 1; a = merge w (true -> b) (false -> 2);", "w"},
		{"a: int; w: bool; b: int when true(w);", "b = pre 1; w = true; a = merge w (true -> b) (false -> 2);", "a b"},
	})
}

// P10.1: only what a definition of the block itself says of a variable of the block counts.
func TestWhatMakesNoVariableLate(t *testing.T) {
	holdFound(t, []found{
		{"a: int;", "a = o;", ""}, // o is one of the blocks around
		{"a: int;", "o = pre 1; a = o;", ""},
		{"a: int;", "o = pre a; o = a; a = pre o; p = a;", "a"},
		{"a: int; b: int;", "(a, b) = g(pre 1);", ""},
		{"a: int; b: int;", "a = g(pre b) every pre c; b = a;", ""},
		{"a: int; b: int;", "reset do a = pre 1; every pre c; b = a;", ""},
		{"a: int; b: int;", "switch pre c | true do a = pre 1; b = a; | false do a = pre 2; b = pre b; end;", ""},
		{"a: int; b: int;", "automaton | S do a = pre 1; unless pre c then S until pre c then S end; b = a;", ""},
		{"a: int; b: int;", "reset var c: int; do c = pre 1; a = c; every true; b = pre a;", "b"},
		{"a: int;", "reset var b: int; do b = pre 1; every true; a = b;", ""}, // another b
	})
}
