package inits_test

import (
	"reflect"
	"strings"
	"testing"

	"metronome/api"
	"metronome/faults"
	"metronome/inits"
	"metronome/parse"
)

// program is the program of a text. All its names, types and clocks are right: for others Check promises nothing.
func program(t *testing.T, s string) api.Program {
	t.Helper()
	p := parsed(t, s)
	if err := checked(p); err != nil {
		t.Fatalf("%s\n%v", s, err)
	}
	return p
}

func parsed(t *testing.T, s string) api.Program {
	t.Helper()
	p, err := parse.Program(s)
	if err != nil {
		t.Fatalf("%s\n%v", s, err)
	}
	return p
}

// right holds the texts to have no error.
func right(t *testing.T, texts ...string) {
	t.Helper()
	for _, s := range texts {
		holdRight(t, s, program(t, s))
	}
}

// wrong holds the texts to an error where they have an @ (which itself is left out).
func wrong(t *testing.T, texts ...string) {
	t.Helper()
	for _, s := range texts {
		ahead, behind, ok := strings.Cut(s, "@")
		if !ok {
			t.Errorf("%q has no place", s)
		}
		at := api.Pos{Line: 1 + strings.Count(ahead, "\n"), Col: len(ahead) - strings.LastIndex(ahead, "\n")}
		holdError(t, s, program(t, ahead+behind), at)
	}
}

func holdError(t *testing.T, what string, p api.Program, at api.Pos) {
	t.Helper()
	if err := inits.Check(p); !reflect.DeepEqual(err, faults.New(api.Init, at)) {
		t.Errorf("%s\n%v, want an error at %v", what, err, at)
	}
}

func holdRight(t *testing.T, what string, p api.Program) {
	t.Helper()
	if err := inits.Check(p); err != nil {
		t.Errorf("%s\n%v", what, err)
	}
}

// node is a program with a node that has late variables of each type (l, m, r) and some with a clock (lc, mc), some that are not late, and some equations.
func node(vars, eqs string) string {
	return `type t = A | B;
node g(a: int; b: bool) returns (c: int; d: bool) let c = a; d = b; tel
node one() returns (a: int) let a = 1; tel
node none(a: int) returns () let tel
node f(n: int; c: bool; e: t) returns (x: int; last y: bool = true)
var v: int; last z: int = 0; l: int; m: bool; r: t; lc: int when true(c); mc: bool when true(c); ` + vars + `
let x = n; y = c; v = x; z = v; l = pre n; m = pre c; r = pre e; lc = pre (n when true(c)); mc = pre (c when true(c)); ` + eqs + ` tel`
}

// of are the nodes that define a variable by each of some expressions.
func of(v string, exprs ...string) []string {
	name, _, _ := strings.Cut(v, ":")
	l := make([]string, len(exprs))
	for i, e := range exprs {
		l[i] = node(v+";", name+" = "+e+";")
	}
	return l
}

// nested are the nodes with a block in each of the places where one can stand in another one.
func nested(vars, eqs string) []string {
	block := "var q0: int; " + vars + " do q0 = 1; " + eqs
	return []string{
		node("", "reset "+block+" every c;"),
		node("", "switch c | true "+block+" | false do end;"),
		node("", "switch e | A do | B "+block+" end;"),
		node("", "automaton | S "+block+" until q0 = 1 then S end;"),
		node("", "automaton | S do unless c continue T | T "+block+" end;"),
		node("", "reset do reset do automaton | S do reset "+block+" every c; end; every c; every y;"),
	}
}

// P10.2: programs in which nothing is wrong.
func TestRightPrograms(t *testing.T) {
	right(t,
		"",
		"type t = A;",
		"node f() returns () let tel",
		"node f(a: int) returns (x: int) let x = 0 fby (x + a); tel",
		"node f(a: int) returns (x: int) let x = 0 -> pre (x + a); tel",
		"node f(last a: int = 1) returns (last x: int = 0) let x = last x + last a; tel",
		"node f(a: int) returns (x: int) var l: int; let l = pre a; x = a -> l; tel",
		"node f(a: int) returns (x: int) var k: int; l: int; let k = l + pre x; l = pre a + 1; x = a -> k * l; tel",
		node("", ""),
		node("w: int when true(m);", "w = 1;"), // nothing is said of what samples a variable
		node("p: int; q: bool;", "(p, q) = g(v -> l, c) every true -> m;"),
	)
	p := program(t, node("p: int;", "p = l;"))
	q := &p.Nodes[len(p.Nodes)-1].B.Eqs
	(*q)[len(*q)-1].E = fby(expr(t, "pre n"), expr(t, "n"))
	holdRight(t, "a late first value of a late variable", p)
}

// P10.2: the chapter's examples.
func TestExamples(t *testing.T) {
	right(t, "node f() returns (x: int) let x = 0 -> pre x; tel")
	wrong(t, "node f() returns (x: int) let @x = pre x; tel")
}

// P10.2: a variable with a last value isn't late.
func TestLastVariables(t *testing.T) {
	wrong(t,
		node("last @p: int = 1;", "p = pre n;"), node("last @p: int = 1;", "p = l;"), node("q: int; last @p: int = 1;", "p = q + 1; q = l;"), node("last @p: int = 1;", "p = pre last p;"),
		node("last p: int = 1; last @q: int = 1;", "p = last q; q = pre p;"), node("last @p: int when true(c) = 1;", "p = lc;"),
	)
	for _, e := range []string{"0 fby n", "0 -> l", "last p", "last z + n", "n -> pre last p", "p"} {
		right(t, node("last p: int = 1;", "p = "+e+";"))
	}
	wrong(t, nested("last @p: int = 1;", "p = pre n;")...)
	wrong(t, nested("last @p: int = 1;", "p = l;")...)
	wrong(t, nested("last p: int = 1; last @q: int = 1;", "p = n; q = pre n;")...)
	right(t, nested("last p: int = 1;", "p = v -> l;")...)
}

// ints are int expressions that are wrong within themselves, at their places.
func ints() []string {
	return []string{
		"@0 fby l", "@0 fby pre n", "@1 fby (n + l)", "1 + (@0 fby l)", "0 fby (@0 fby l)", "0 fby (@l -> n)", "@0 fby (merge c (true -> l when true(c)) (false -> 1))",
		"@pre l", "@pre pre n", "pre (n + (@pre l))", "- @pre l", "pre - @pre pre n", "@pre (if m then 1 else 2)", "pre (@l -> n)",
		"@l -> n", "@pre n -> n", "n -> (@l -> n)", "n + (@l + 1 -> n)", "if @m -> c then 1 else 2", "if c then 1 else (@l -> 2)",
		"merge c (true -> @pre (l when true(c))) (false -> 1)", "merge c (true -> n when true(c)) (false -> @0 fby (l when false(c)))",
		"@merge m (true -> 1) (false -> 2)", "@merge r (A -> 1) (B -> 2)", "1 + (@merge m (true -> 1) (false -> 2))", "0 -> pre (1 + (@merge m (true -> 1) (false -> 2)))",
		"merge m (true -> @n when true(m)) (false -> 2)", "merge m (true -> 1) (false -> @2 when false(m))", "merge r (B -> (@n + 1) when B(r)) (A -> 2)", "merge m (true -> @l when true(m)) (false -> 2)",
	}
}

// P10.2: what is read of an instant ago must have been there, and so must what is asked at first, or samples.
func TestInteriors(t *testing.T) {
	for _, e := range ints() {
		wrong(t, of("p: int", e, "1 -> ("+e+")", "(0 fby 1) + ("+e+")", "if c then 1 else "+e)...)
		wrong(t, nested("p: int;", "p = "+e+";")...)
	}
	wrong(t, of("p: int", "@0 fby (merge c (true -> lc) (false -> 1))", "merge c (true -> @pre lc) (false -> 1)", "merge c (true -> @merge mc (true -> 1) (false -> 2)) (false -> 1)")...)
	wrong(t, of("p: int when true(c)", "@pre lc", "@lc -> 1", "@0 fby lc", "@merge mc (true -> 1) (false -> 2)", "@pre (l when true(c))")...)
	wrong(t, of("p: int when true(c) when false(mc)", "@1 when true(c) when false(mc)")...)
	right(t, of("p: int", "l", "pre n", "n + l", "0 fby n", "0 fby (n -> l)", "pre (0 -> l)", "n -> l", "n -> pre n", "l + (0 -> pre n)", "if m then l else pre n", "merge c (true -> lc) (false -> l when false(c))")...)
	right(t, of("p: int when true(c)", "lc", "pre (n when true(c))", "l when true(c)", "(n when true(c)) -> lc")...)
}

// P10.2: what defines a variable may be late only where the block declares it.
func TestDefinitions(t *testing.T) {
	about := "node f(n: int; c: bool) returns (x: int) var l: int; o: int; p: int; let l = pre n; o = l; # tel"
	for _, e := range []string{"pre n", "l", "l + 1", "o", "if c then n else l", "merge c (true -> l when true(c)) (false -> n when false(c))"} {
		for _, eqs := range []string{
			"@x = E; p = 1;", "p = E; @x = p;", "p = 1; reset do @x = E; every c;", "x = 1; reset do @p = E; every c;", "x = 1; reset do reset do @p = E; every c; every c;",
			"x = 1; switch c | true do p = 1; | false do @p = E; end;", "p = n; automaton | S do x = 1; | T do @x = E; end;", "x = 1; reset var q: int; do q = E; @p = q; every c;",
		} {
			wrong(t, strings.Replace(about, "#", strings.Replace(eqs, "E", e, 1), 1))
		}
		for _, eqs := range []string{"x = 1; p = E;", "p = E; x = 0 -> p;", "p = n; reset var q: int; do q = E; x = 0 -> q; every c;"} {
			right(t, strings.Replace(about, "#", strings.Replace(eqs, "E", e, 1), 1))
		}
	}
	wrong(t,
		"node f(n: int) returns (x: int) var y: int; let y = 0 fby x; @x = pre y; tel", // an output is no variable of the block
		"node f(n: int) returns (x: int) var y: int; last z: int = 0; let reset do z = x; every false; @x = pre n; y = x; tel",
		"node f(n: int) returns (x: int) var y: int; let x = 1; reset var last z: int = 0; do z = y; @y = pre n; every false; tel",
	)
}

// P10.2: what a call is given is defined, and so is when it begins anew. What it returns is not late.
func TestCalls(t *testing.T) {
	vars := "p: int; q: bool;"
	for _, e := range ints() {
		wrong(t, node(vars, "(p, q) = g("+e+", m);"), node(vars, "(p, q) = g(n, c) every ("+e+") = 1;"), node("", "() = none("+e+") every m;"))
	}
	wrong(t,
		node(vars, "(p, q) = g(@l, c);"), node(vars, "(p, q) = g(@pre n, c);"), node(vars, "(p, q) = g(n, @m);"), node(vars, "(p, q) = g(n, c) every @m;"), node(vars, "(p, q) = g(n, c) every @pre c;"), node(vars, "(p, q) = g(n, c) every @c or pre c;"),
		node(vars, "(p, q) = g(@1 + l, m) every m;"), node(vars, "(p, q) = g(n, @m) every m;"), node("", "() = none(@l);"), node("", "() = none(1) every @m;"), node("p: int;", "p = one() every @not m;"),
		node("p: int when true(c); q: bool when true(c);", "(p, q) = g(@lc, mc);"), node("p: int when true(c); q: bool when true(c);", "(p, q) = g(1, true) every @mc;"),
		node("p: int; q: bool; o: int;", "o = 0 fby p; (p, q) = g(@o + l, c);"), "node g(a: int) returns (b: int) let b = a; tel node f() returns (x: int) let x = g(@pre x); tel",
	)
	wrong(t, nested(vars, "(p, q) = g(@l, c);")...)
	wrong(t, nested(vars, "(p, q) = g(n, c) every @m;")...)
	right(t,
		node(vars, "(p, q) = g(n -> l, c -> m) every c -> m;"), node("last p: int = 0; q: bool; o: int;", "(p, q) = g(n, c); o = 0 fby (p -> l);"), node("p: int; q: bool; o: int;", "o = pre p; (p, q) = g(n, false fby c) every q -> m;"),
		"node g(a: int) returns (b: int) let b = a; tel node f(c: bool) returns (x: int) let reset do x = g(1); every c; tel",
	)
}

// P10.2: the block of a reset comes ahead of when it begins anew, which is defined.
func TestResets(t *testing.T) {
	for _, e := range ints() {
		wrong(t, node("", "reset do every ("+e+") = 1;"))
	}
	wrong(t,
		node("", "reset do every @m;"), node("", "reset do every @pre c;"), node("", "reset do every @c and m;"), node("", "reset var q: int; do q = 0 fby (@0 fby l); every m;"), node("", "reset var q: int; do q = @pre l; every m;"),
		node("", "reset var q: bool; do q = pre c; every @m;"), node("", "reset do reset do every @m; every m;"), node("", "reset do reset do every c; every @m;"), node("p: int;", "reset do @p = l; every m;"), node("", "reset var last @q: int = 0; do q = l; every m;"),
	)
	right(t, node("", "reset do every c -> m;"), node("p: int;", "reset var q: int; do q = l; p = 0 -> q; every false fby c;"))
}

// P10.2: what a switch asks is defined, and comes ahead of its arms.
func TestSwitches(t *testing.T) {
	for _, e := range ints() {
		wrong(t, node("", "switch ("+e+") = 1 | true do | false do end;"))
	}
	wrong(t,
		node("", "switch @m | true do | false do end;"), node("", "switch @r | B do | A do end;"), node("", "switch @pre e | A do | B do end;"), node("", "switch @n < l | true do | false do end;"),
		node("", "switch @m | true var q: int; do q = pre l; | false do end;"), node("", "switch c | true var q: int; do q = @pre l; | false var q: int; do q = pre l; end;"), node("", "switch e | B do | A var q: int; do q = @l -> 1; end;"),
		node("p: int;", "switch c | true do p = 1; | false do @p = l; end;"), node("p: int;", "switch c | true do @p = l; | false do p = pre l; end;"), node("", "switch c | true var last @q: int = 0; do q = l; | false do end;"),
		node("p: int;", "switch c | true var q: int; do q = l; p = 1; | false var q: int; do q = 1; p = 0 fby q; end; () = none(@l);"),
	)
	right(t, node("p: int;", "switch c -> m | true var q: int; do q = l; p = 1; | false var q: int; do q = 1; p = 0 fby q; end;"))
}

// P10.2: the ways out of a state are defined: strongly ahead of its block, weakly behind it, where what is late in the block counts too.
func TestAutomata(t *testing.T) {
	for _, e := range []string{
		"@m", "@c or m", "@not m", "@l = 1", "@r <> A", "@if c then y else m", "@last y and m", "@merge c (true -> m when true(c)) (false -> y when false(c))",
		"c or (@merge m (true -> true) (false -> false))", "merge m (true -> true) (false -> @y when false(m))", "merge r (A -> true) (B -> not (@c when B(r)))",
	} {
		wrong(t,
			node("", "automaton | S do unless "+e+" then S end;"),
			node("", "automaton | S do until "+e+" then S end;"),
			node("", "automaton | S do unless c continue T unless "+e+" continue S | T do end;"),
			node("", "automaton | S do | T do until c then S until "+e+" then S end;"),
			node("", "automaton | S do unless "+e+" then S until m then S | T do unless m then S end;"),
			node("", "automaton | S var q: int; do q = pre l; unless "+e+" then S end;"),
			node("", "automaton | S do until "+e+" then S | T do unless m then S end;"),
		)
	}
	wrong(t,
		node("", "automaton | S var q: bool; do q = pre c; until @q then S end;"),
		node("", "automaton | S var q: bool; o: bool; do q = o; o = m; until @c = q then S end;"),
		node("", "automaton | S var q: int; do q = @pre l; until m then S end;"),
		node("", "automaton | S var q: int; do q = l; | T var q: int; do q = @pre l; end;"),
		node("", "automaton | S var last @q: int = 0; do q = l; until m then S end;"),
		node("p: int;", "automaton | S do p = 1; | T do @p = l; until m then S end;"),
		node("", "automaton | S var q: bool; do q = m; until true then T | T var q: bool; do q = c; until q then S until @m then S end;"),
	)
	right(t,
		node("", "automaton | S var q: bool; o: int; do q = c -> m; o = l; unless y then T until q and last y then S | T var q: int; do q = l; until y continue S end;"),
		node("", "automaton | S var q: bool; do q = m; | T var q: bool; do q = c; until q then S end; reset var q: bool; do q = c; every y;"),
	)
}

// P10.1, P10.2: a block within sees what is late around it, has late variables of its own, and leaves none behind.
func TestBlocksWithin(t *testing.T) {
	for _, eqs := range []string{
		"p = l; q = 1; () = none(@p);",
		"p = q; q = l + 1; () = none(@p);",
		"p = l; q = @0 fby p;",
		"q = @pre p; p = l;",
		"p = l; q = 1; reset var o: int; do o = p; () = none(@o); every c;",
		"p = l; q = 1; reset var last @o: int = 0; do o = q + p; every c;",
		"p = 1; q = l; switch @q = 1 | true do | false do end;",
		"q = l; p = 1 -> q; automaton | S do unless @q = 1 then S end;",
		"q = l; p = 1; automaton | S var o: int; do o = q; until @o = 1 then S end;",
		"q = l; p = 1; reset var o: int; do reset do @o = q; every c; every c;",
	} {
		wrong(t, nested("p: int; q: int;", eqs)...)
	}
	right(t, nested("p: int; q: int;", "p = l; q = p + v; reset var o: int; do o = p + q; () = none(0 -> o); every c;")...)
	right(t,
		node("", "reset var q: int; do q = l; every c; reset var q: int; do q = n; () = none(q); every c;"),
		node("", "switch c | true var q: int; do q = l; | false var q: int; do q = n; () = none(q); end;"),
		node("", "reset var q: int; do q = l; every c; automaton | S var q: bool; do q = c; until q then S end;"),
		"node f(n: int) returns () var l: int; let l = pre n; tel node g(l: int) returns (x: int) let x = l; tel",
	)
}

// P10.2: the first error in the order of the chapter counts, wherever the others stand.
func TestWhichErrorIsFirst(t *testing.T) {
	vars := "p: int; q: bool;"
	wrong(t,
		"node g() returns (x: int) let @x = pre x; tel node f() returns (x: int) var last y: int = 0; let y = pre x; x = y; tel",
		"node f() returns (x: int) var last @y: int = 0; let y = pre x; x = y; tel node g() returns (x: int) let x = pre x; tel",
		node("last @p: int = 0; last q: int = 0;", "q = l; p = l;"),
		node("p: int; last @q: int = 0;", "p = pre l; q = l;"),
		node("p: int; q: int;", "q = @pre l; p = pre l;"),
		node("p: int; q: int;", "p = @pre l; q = pre l;"),
		node("p: int; q: int;", "q = (0 fby 1) + (@0 fby l); p = pre l;"),
		node("last @p: int = 0;", "p = pre l; reset var last q: int = 0; do q = l; every m;"),
		node("p: int;", "p = (@pre l) + (0 fby l);"),
		node("p: int;", "reset do p = @pre l; every m;"),
		node("p: int;", "reset do @p = pre n; every m;"),
		node(vars, "(p, q) = g(@l, m) every m;"),
		node(vars, "(p, q) = g(@pre l, c);"),
		node(vars, "(p, q) = g(n + (@pre l), m) every m;"),
		node(vars, "(p, q) = g(n, @m) every not m;"),
		node("", "reset var q: int; do q = @pre l; every m; switch m | true do | false do end;"),
		node("", "reset var last @q: int = 0; do q = pre l; every m;"),
		node("", "switch @m | true var last q: int = 0; do q = l; | false do end;"),
		node("", "switch c | true do switch @m | true do | false do end; | false do () = none(l); end;"),
		node("", "automaton | S var last q: int = 0; do q = l; unless @m then S until m then S | T do unless m then S end;"),
		node("", "automaton | S var last @q: int = 0; do q = l; unless y then S until m then S | T do unless m then S end;"),
		node("", "automaton | S do until @m then S | T var last q: int = 0; do q = l; unless m then S end;"),
		node("", "automaton | S do () = none(@l); unless y then S until m then S | T do unless m then S end;"),
	)
}
