package clocks_test

import (
	"reflect"
	"strings"
	"testing"

	"metronome/api"
	"metronome/clocks"
	"metronome/faults"
	"metronome/names"
	"metronome/parse"
	"metronome/types"
)

// program is the program of a text. All its names and types are right: for others the chapter promises nothing.
func program(t *testing.T, s string) api.Program {
	t.Helper()
	p, err := parse.Program(s)
	if err == nil {
		err = names.Check(p)
	}
	if err == nil {
		err = types.Check(p)
	}
	if err != nil {
		t.Fatalf("%s\n%v", s, err)
	}
	return p
}

// right holds the texts to have no error.
func right(t *testing.T, texts ...string) {
	t.Helper()
	for _, s := range texts {
		holdRight(t, s, program(t, s))
	}
}

// wrong holds the texts to an error where they have an @ (which itself is left out).
func wrong(t *testing.T, texts ...string) {
	t.Helper()
	for _, s := range texts {
		ahead, behind, ok := strings.Cut(s, "@")
		if !ok {
			t.Errorf("%q has no place", s)
		}
		at := api.Pos{Line: 1 + strings.Count(ahead, "\n"), Col: len(ahead) - strings.LastIndex(ahead, "\n")}
		holdError(t, s, program(t, ahead+behind), at)
	}
}

func holdError(t *testing.T, what string, p api.Program, at api.Pos) {
	t.Helper()
	if err := clocks.Check(p); !reflect.DeepEqual(err, faults.New(api.Clock, at)) {
		t.Errorf("%s\n%v, want an error at %v", what, err, at)
	}
}

func holdRight(t *testing.T, what string, p api.Program) {
	t.Helper()
	if err := clocks.Check(p); err != nil {
		t.Errorf("%s\n%v", what, err)
	}
}

// node is a program with a node that has variables on each sort of clock, some others, and some equations.
func node(vars, eqs string) string {
	return `type t = A | B; type u = C;
node g(a: int; b: bool) returns (c: int; d: bool) let c = a; d = b; tel
node one() returns (a: int) let a = 1; tel
node none(a: int) returns () let tel
node f(n: int; c: bool; e: t) returns (x: int; last y: bool = true)
var v: int; d: bool; w: int when true(c); last z: int when true(c) = 0; last k: bool when true(c) = true; m: int when true(c) when false(k); r: t when B(e); ` + vars + `
let x = n; y = c; v = n; d = c; w = 1; z = 1; k = true; m = 1; r = A; ` + eqs + ` tel`
}

// of are the nodes that define a variable, declared as told, by each of some expressions.
func of(v string, exprs ...string) []string {
	name, _, _ := strings.Cut(strings.TrimPrefix(v, "last "), ":")
	l := make([]string, len(exprs))
	for i, e := range exprs {
		l[i] = node(v+";", name+" = "+e+";")
	}
	return l
}

// nested are the nodes with a block in each of the places where one can stand in another one.
func nested(vars, eqs string) []string {
	block := "var q0: int; " + vars + " do q0 = 1; " + eqs
	return []string{
		node("", "reset "+block+" every c;"),
		node("", "switch c | true "+block+" | false do end;"),
		node("", "switch e | A do | B "+block+" end;"),
		node("", "automaton | S "+block+" until q0 = 1 then S end;"),
		node("", "automaton | S do unless c continue T | T "+block+" end;"),
		node("", "reset do reset do automaton | S do reset "+block+" every d; end; every c; every y;"),
	}
}

// P9.1: two clocks are one if they are the same samplings in the same order.
func TestSame(t *testing.T) {
	a, b, c := api.On{Ctor: "A", Var: "x"}, api.On{Ctor: "B", Var: "x"}, api.On{Ctor: "A", Var: "y"}
	l := [][]api.On{nil, {a}, {b}, {c}, {{}}, {a, a}, {a, b}, {b, a}, {a, c}, {a, b, c}, {a, {}}}
	for i, x := range l {
		for j, y := range l {
			y = append([]api.On{}, y...)
			if clocks.Same(x, y) != (i == j) || clocks.Same(y, x) != (i == j) {
				t.Errorf("Same(%v, %v) = %v", x, y, i != j)
			}
		}
	}
	if !clocks.Same(nil, nil) || !clocks.Same([]api.On{}, nil) {
		t.Error("the base clock isn't the base clock")
	}
}

// P9.3: programs in which all clocks are right.
func TestRightPrograms(t *testing.T) {
	right(t,
		"",
		"type t = A;",
		"node f() returns () let tel",
		"node f(a: int; last b: bool = true) returns (x: int; last y: bool = false) let x = a; y = last b; tel",
		"node f(c: bool) returns (x: int) var w: int when true(c); let w = 0 fby (w + 1); x = merge c (true -> w) (false -> 0); tel",
		node("", ""),
		node("p: int when true(c); q: bool when true(c);", "(p, q) = g(w, k) every k or last k;"),
	)
}

// P9.3: inputs and outputs are on the base clock.
func TestInputsAndOutputs(t *testing.T) {
	wrong(t,
		"node f(@a: int when true(b); b: bool) returns () let tel",
		"node f(b: bool; c: int; @a: int when true(b)) returns (x: int when true(b)) let x = 1; tel",
		"node f(b: bool) returns (y: int; @x: int when true(b)) let x = 1; y = x; tel",
		"node f() returns (@x: bool when true(x)) let x = true; tel",
		"node f() returns (b: bool; last @x: int when true(b) = 0) var w: bool when true(x2); x2: bool when true(w); let b = true; x = 1; w = true; x2 = true; tel",
		"type t = A; node e() returns () let tel node f(@a: int when A(b); b: t) returns () let tel",
	)
}

// P9.3: what samples a variable has the clock formed by the samplings before it.
func TestClocksOfVariables(t *testing.T) {
	for _, v := range []string{
		"@p: int when true(k)", "@p: int when true(c) when true(c) when false(k)", "@p: int when false(c) when true(k)", "@p: int when false(k) when true(c)", "@p: int when true(c) when true(d)",
		"@p: int when true(c) when true(c)", "@p: int when true(c) when B(e)", "@p: int when A(r)", "@p: int when A(e) when A(r)", "@p: int when true(c) when false(k) when true(k)", "@p: int when true(c) when true(k) when true(y)",
	} {
		wrong(t, node(v+";", "p = 1;"))
	}
	for _, v := range []string{
		"p: int when true(d)", "p: int when false(y)", "p: int when A(e)", "p: int when true(c) when true(k)", "p: int when B(e) when A(r)", "last p: int when true(c) when false(k) = 1",
	} {
		right(t, node(v+";", "p = 1;"))
	}
	wrong(t,
		node("@p: bool when true(p);", "p = true;"),
		node("@p: bool when true(q); q: bool when true(p);", "p = true; q = true;"),
		node("@p: bool when true(q); q: bool when true(c);", "p = true; q = true;"),
		node("p: bool when true(c); @q: bool when true(c) when true(o); o: bool when true(d);", "p = true; q = true; o = true;"),
	)
	right(t,
		node("p: int when true(c) when true(q); q: bool when true(c);", "p = 1; q = true;"),
		node("p: int when true(q) when A(o); q: bool; o: t when true(q);", "p = 1; q = true; o = B;"),
	)
}

// P9.1, P9.3: within a block the variables of the blocks around it are on its base clock, those that have a clock themselves can't be read, and its own are relative to its base clock.
func TestBlocksWithin(t *testing.T) {
	for _, eqs := range []string{
		"p = @w;", "p = n + @m;", "p = @last z;", "p = pre @z;", "p = if @k then 1 else 2;", "p = merge c (true -> @w) (false -> 0);", "p = @merge k (true -> 1) (false -> 0);", "p = @merge r (A -> 1) (B -> w);",
		"p = @w when true(c);", "p = @1 when true(k);", "p = 0 fby @w;", "p = one() every @k;", "p = 1; () = none(@w);", "p = 1; switch @k | true do | false do end;", "p = 1; reset do every @k;",
		"p = 1; reset var o: int; do o = @w; every k;", "p = 1; automaton | S do unless @k then S end;", "p = 1; automaton | S do until @last k then S end;",
	} {
		wrong(t, nested("p: int;", eqs)...)
	}
	wrong(t, nested("@p: int when true(k);", "p = 1;")...)
	wrong(t, nested("@p: int when B(e) when A(r);", "p = 1;")...)
	wrong(t, nested("p: int when true(c);", "p = @n;")...)
	wrong(t, nested("p: int when true(c);", "p = @w;")...)
	wrong(t, nested("p: bool when true(c);", "p = true; automaton | S do until @p then S end;")...)
	wrong(t, nested("p: bool when true(c);", "p = true; reset var @o: bool when true(p); do o = true; every c;")...)
	right(t, nested("p: int;", "p = n + v + x;")...)
	right(t, nested("p: int when true(c); q: int when true(c) when true(o); o: bool when true(c);", "p = v when true(c); o = y when true(c); q = p when true(o) + pre (x when true(c) when true(o));")...)
	right(t, nested("p: bool; q: int when false(d);", "p = last y; q = 1; switch p | true var o: bool when A(e); do o = d when A(e); | false do end;")...)
	right(t, nested("p: int; q: bool;", "(p, q) = g(merge y (true -> v when true(y)) (false -> 0), c) every q0 = 1;")...)
}

// P9.3: a variable that has a clock isn't defined within another block.
func TestDefinedWithin(t *testing.T) {
	about := "node g() returns (a: int; b: int) let a = 1; b = 2; tel node f(c: bool) returns (x: int) var last o: int when true(c) = 0; p: int; let # tel"
	for _, s := range []string{
		"reset do @o = 1; every c; x = 1; p = 1;", "reset do x = 1; @(p, o) = g(); every c;", "reset do @(o, p) = g(); x = 1; every c;", "switch c | true do x = 1; @o = 1; | false do x = 2; end; p = 1;", "automaton | S do p = 1; @o = 1; end; x = 1;",
		"reset do automaton | S do unless c then T | T do reset do @o = 1; every c; end; every c; x = p; p = 1;",
	} {
		wrong(t, strings.Replace(about, "#", s, 1))
	}
	right(t,
		strings.Replace(about, "#", "reset do p = 1; reset do x = 1; every c; every c; o = 2;", 1),
		strings.Replace(about, "#", "switch c | true do (x, p) = g(); | false do (p, x) = g(); end; o = 2;", 1),
		"node f(c: bool) returns () let reset var p: bool; o: int when true(p); do p = c; o = 1; every c; reset var o: bool; p: int when true(o); do p = 1; o = true; every c; tel",
	)
}

// P9.2: constants are on each clock.
func TestConstants(t *testing.T) {
	for _, clock := range []string{"", " when true(c)", " when B(e)", " when true(c) when false(k)"} {
		right(t, of("p: int"+clock, "0", "-1")...)
		right(t, of("p: bool"+clock, "true", "false", "A = B")...)
		right(t, of("p: t"+clock, "A")...)
	}
}

// P9.2: a variable has the clock on which it is read, now and last time.
func TestVariables(t *testing.T) {
	right(t, of("p: int", "n", "x", "v", "p")...)
	right(t, of("p: bool", "y", "last y", "c")...)
	right(t, of("p: int when true(c)", "w", "z", "last z", "p")...)
	right(t, of("p: bool when true(c)", "k", "last k")...)
	right(t, of("p: int when true(c) when false(k)", "m")...)
	wrong(t, of("p: int", "@w", "@z", "@last z", "@m")...)
	wrong(t, of("p: int when true(c)", "@n", "@v", "@m")...)
	wrong(t, of("p: bool when true(c)", "@c", "@d", "@last y")...)
	wrong(t, of("p: int when false(c)", "@w", "@last z", "@m")...)
	wrong(t, of("p: int when true(d)", "@w", "@last z", "@m")...)
	wrong(t, of("p: t when A(e)", "@r")...)
	wrong(t, of("p: int when true(c) when true(k)", "@m", "@w", "@last z", "@n")...)
	wrong(t, node("p: int when true(c) when true(d2); d2: bool when true(c); q: int when true(d) when true(c2); c2: bool when true(d);", "p = 1; d2 = true; q = @p; c2 = true;"))
}

// P9.2: what is sampled is on the clock without the sampling, and so is what samples it.
func TestWhen(t *testing.T) {
	right(t, of("p: int when true(c)", "n when true(c)", "1 when true(c)", "(n + v) when true(c)", "w + n when true(c)", "(merge c (true -> w) (false -> n when false(c))) when true(c)")...)
	right(t, of("p: int when true(c) when false(k)", "w when false(k)", "n when true(c) when false(k)", "last z when false(k)", "m + w when false(k)")...)
	right(t, of("p: t when B(e)", "e when B(e)", "r")...)
	wrong(t, of("p: int", "@n when true(c)", "@1 when false(d)", "@w when true(c)", "n + @w when true(c)")...)
	wrong(t, of("p: int when true(c)", "@n when false(c)", "@n when true(d)", "@w when true(k)", "@n when true(c) when true(c)", "w + @n when false(c)", "n when true(c) + @n")...)
	wrong(t, of("p: int when true(c)", "@w when true(c)", "@last z when true(c)", "@m when true(c)", "(n + @w) when true(c)", "(if @k then 1 else 2) when true(c)", "(if c then n else (@v when true(c))) when true(c)")...)
	wrong(t, of("p: int when true(c) when false(k)", "@n when false(k)", "@n when true(c)", "@w when true(c) when false(k)", "@w when true(k)", "@n when false(k) when true(c)", "@m when false(k)")...)
	wrong(t, of("p: t when B(e)", "@e when A(e)", "@r when B(e)", "@A when A(r)")...)
}

// P9.2: what is merged has the clock of the merge, and each part that clock and its own sampling.
func TestMerge(t *testing.T) {
	right(t, of("p: int", "merge c (true -> w) (false -> 0)", "merge c (false -> n when false(c)) (true -> w + z)", "merge e (A -> 1) (B -> merge r (A -> 1) (B -> 2))", "merge c (true -> merge k (false -> m) (true -> w when true(k))) (false -> v when false(c))")...)
	right(t, of("p: int when true(c)", "merge k (true -> w when true(k)) (false -> m)", "merge k (false -> n when true(c) when false(k)) (true -> 1)")...)
	wrong(t, of("p: int", "@merge k (true -> 1) (false -> 2)", "@merge k (true -> n) (false -> m)", "@merge r (A -> w) (B -> 2)", "merge c (true -> @n) (false -> 0)", "merge c (true -> 0) (false -> @v)", "merge c (true -> w) (false -> @w)", "merge c (false -> @w) (true -> n)", "merge d (true -> @w) (false -> n)")...)
	wrong(t, of("p: int", "merge c (true -> @m) (false -> 0)", "merge c (true -> w) (false -> @merge k (true -> 1) (false -> 0))", "merge c (true -> merge k (true -> @w) (false -> m)) (false -> n)", "merge c (true -> @merge c (true -> w) (false -> 0)) (false -> 0)", "merge e (A -> 1) (B -> @merge e (A -> 1) (B -> 2))", "merge c (true -> @n when false(c)) (false -> 0)")...)
	wrong(t, of("p: int when true(c)", "@merge c (true -> w) (false -> 0)", "@merge d (true -> w) (false -> 0)", "merge k (true -> @w) (false -> 0)", "merge k (true -> 1) (false -> @m when false(k))", "merge k (true -> @m) (false -> m)", "@merge y (true -> n) (false -> 0)")...)
	wrong(t, of("p: int when false(c)", "@merge k (true -> 1) (false -> m)")...)
}

// P9.2: what else is made of others is on their clock.
func TestOthers(t *testing.T) {
	right(t, of("p: int when true(c)", "- w", "w + z", "if k then w else last z", "0 fby w", "pre w", "w -> z", "0 -> pre (w * z)")...)
	right(t, of("p: bool when true(c)", "not k", "k or last k", "w = z and w < 1")...)
	right(t, of("p: int", "- n", "n + v", "if d then n else x", "0 fby n", "pre n", "n -> v")...)
	wrong(t, of("p: int", "- @w", "n + @w", "@w + n", "@w - z", "if @k then 1 else 2", "if c then @w else n", "if c then n else @w", "0 fby @w", "pre @w", "@w -> n", "n -> @w", "1 -> 0 fby pre (2 * - @w)")...)
	wrong(t, of("p: int when true(c)", "- @n", "w + @n", "@n + w", "if @c then w else z", "if k then @n else w", "if k then w else @n", "0 fby @n", "pre @n", "@n -> w", "w -> @n")...)
	wrong(t, of("p: bool", "not @k", "c or @k", "d xor @last k", "@w = n", "1 > @w")...)
}

// P9.3: a call and its arguments are on the one clock of what it defines.
func TestCalls(t *testing.T) {
	vars := "p: int when true(c); q: bool when true(c); o: int; l: bool;"
	wrong(t,
		node(vars, "@(p, l) = g(1, true); q = true; o = 1;"), node(vars, "@(o, q) = g(1, true); p = 1; l = true;"), node("p: int when true(c); q: bool when false(c);", "@(p, q) = g(w, k);"),
		node("p: int when true(c); q: bool when true(d);", "@(p, q) = g(w, k);"), node("p: int when true(c) when true(k); q: bool when true(c);", "@(p, q) = g(1, k);"),
		node(vars, "(p, q) = g(@n, k); o = 1; l = c;"), node(vars, "(p, q) = g(w, @c); o = 1; l = c;"), node(vars, "(o, l) = g(@w, c); p = 1; q = k;"), node(vars, "(o, l) = g(n, not @k) every k; p = 1; q = k;"),
		node(vars, "(p, q) = g(w, k) every @c; o = 1; l = c;"), node(vars, "(o, l) = g(n, c) every @k; p = 1; q = k;"), node(vars, "(p, q) = g(w, k) every k or @last y; o = 1; l = c;"),
		node("", "() = none(@w);"), node("", "() = none(n) every @k;"), node("", "() = none(@n when true(c));"), node("p: int when true(c);", "p = one() every @y;"), node("p: int when true(c) when false(k);", "p = one() every @k;"),
	)
	right(t,
		node(vars, "(p, q) = g(w, k) every last k; (o, l) = g(n, c) every d;"), node(vars, "(p, q) = g(n when true(c), c when true(c)); (o, l) = g(merge c (true -> w) (false -> 0), true);"),
		node("p: int when true(c) when false(k); q: bool when true(c) when false(k);", "(p, q) = g(m, k when false(k)) every d when true(c) when false(k);"), node("", "() = none(n) every c;"), node("p: int when B(e);", "p = one();"),
	)
}

// P9.3: the block of a reset is checked, and then when it begins anew, on the base clock around it.
func TestResets(t *testing.T) {
	wrong(t,
		node("", "reset do every @k;"), node("", "reset do every d and last y and @last k;"), node("", "reset do every @c when true(c);"), node("", "reset var q: int; do q = @w; every k;"),
		node("", "reset var q: bool when true(c); do q = true; every @k;"), node("", "reset do reset do every @k; every k;"), node("", "reset do reset do every c; every @k;"),
	)
}

// P9.3: what a switch asks is on the base clock; its arms come after it.
func TestSwitches(t *testing.T) {
	wrong(t,
		node("", "switch @k | true do | false do end;"), node("", "switch @r | B do | A do end;"), node("", "switch n < @w | true do | false do end;"), node("", "switch @e when B(e) | A do | B do end;"),
		node("", "switch @k | true var q: int; do q = w; | false do end;"), node("", "switch c | true var q: int; do q = @w; | false var q: int; do q = m; end;"), node("", "switch c | false var q: int; do q = 1; | true var q: int; do q = @m; end;"),
		node("", "switch e | A do switch @k | true do | false do end; | B do reset do every k; end;"),
	)
}

// P9.3: the ways out of a state are on the base clock: strongly of the block around it, weakly of its own.
func TestAutomata(t *testing.T) {
	wrong(t,
		node("", "automaton | S do unless @k then S end;"), node("", "automaton | S do until @k then S end;"), node("", "automaton | S do unless @last k continue S end;"), node("", "automaton | S do until c then S until @last k then S end;"),
		node("", "automaton | S do unless c then S unless n > @w then S end;"), node("", "automaton | S do unless @c when true(c) then S end;"), node("", "automaton | S var q: bool when true(c); do q = true; until @q then S end;"),
		node("", "automaton | S var q: int; do q = w; unless @k then S end;"), node("", "automaton | S var q: int; do q = @w; until k then S end;"),
		node("", "automaton | S do until @k then S | T do unless k then S end;"), node("", "automaton | S do | T do unless @k then S end;"), node("", "automaton | S do unless c then T | T var q: int; do q = @w; end;"),
		node("", "automaton | S var q: bool when true(o); o: bool; do q = true; o = c; until o then S until merge o (true -> q) (false -> @q) then S end;"),
	)
	right(t,
		node("", "automaton | S var q: bool; do q = pre c; unless y then T until q and last y then S | T var q: int when false(d); do q = 1; until merge d (false -> q = 1) (true -> c when true(d)) continue S end;"),
	)
}

// P9.3: the first error in the order of the chapter counts, wherever the others stand.
func TestWhichErrorIsFirst(t *testing.T) {
	wrong(t,
		"node f(c: bool; @a: int when true(c)) returns (x: int when true(c)) var w: int when true(x2); x2: bool when true(c); let x = 1; w = 1; x2 = true; tel",
		"node g(c: bool) returns (x: int) var w: int when true(c); let w = 1; x = @w; tel node f(c: bool; a: int when true(c)) returns () let tel",
		"node f(c: bool; @a: int when true(c)) returns () let tel node g(c: bool) returns (x: int) var w: int when true(c); let w = 1; x = w; tel",
		"node f(c: bool) returns (@x: int when true(c)) var w: int when true(w2); w2: bool when true(c); let w = x; x = 1; w2 = true; tel",
		"node f(@a: bool when true(b); b: bool when true(a)) returns () let tel",
		node("q: int; @p: int when true(k); o: int when A(r);", "q = w; p = n; o = 1;"),
		node("q: int; p: int;", "q = @w; p = w;"),
		node("q: int; p: int;", "p = @w; q = w;"),
		node("q: int;", "q = (n + @w) + m;"),
		node("p: int when true(c);", "() = none(@w) every k; p = n;"),
		node("p: int; q: bool when true(c);", "@(p, q) = g(w, c) every k;"),
		node("p: int when true(c); q: bool when true(c);", "(p, q) = g(@n, c) every c;"),
		node("p: int when true(c); q: bool when true(c);", "(p, q) = g(w, @c) every c;"),
		node("", "reset var q: int; @p: int when true(k); do q = w; p = 1; every k;"),
		node("", "automaton | S var q: int when true(k); do q = w; unless @k then S until k then S | T do unless k then S end;"),
		node("p: int;", "p = @merge k (true -> n) (false -> w);"),
		node("p: int;", "p = @w when true(c);"),
	)
	p := program(t, "type c = Red | Green; node f(k: c) returns (x: int) var w: int when Red(k); let w = 1; x = w; tel")
	holdError(t, "the chapter's example", p, p.Nodes[0].B.Eqs[1].E.At)
}
