package types_test

import (
	"reflect"
	"strings"
	"testing"

	"metronome/api"
	"metronome/faults"
	"metronome/names"
	"metronome/parse"
	"metronome/types"
)

var (
	boolT = api.Type{Kind: api.TBool}
	intT  = api.Type{Kind: api.TInt}
	tT    = api.Type{Kind: api.TEnum, Name: "t"}
	uT    = api.Type{Kind: api.TEnum, Name: "u"}
)

// program is the program of a text. All its names are there: for others the chapter promises nothing.
func program(t *testing.T, s string) api.Program {
	t.Helper()
	p, err := parse.Program(s)
	if err == nil {
		err = names.Check(p)
	}
	if err != nil {
		t.Fatalf("%s\n%v", s, err)
	}
	return p
}

// right holds the texts to have no error.
func right(t *testing.T, texts ...string) {
	t.Helper()
	for _, s := range texts {
		if err := types.Check(program(t, s)); err != nil {
			t.Errorf("%s\n%v", s, err)
		}
	}
}

// wrong holds the texts to an error where they have an @ (which itself is left out).
func wrong(t *testing.T, texts ...string) {
	t.Helper()
	for _, s := range texts {
		ahead, behind, ok := strings.Cut(s, "@")
		if !ok {
			t.Errorf("%q has no place", s)
		}
		at := api.Pos{Line: 1 + strings.Count(ahead, "\n"), Col: len(ahead) - strings.LastIndex(ahead, "\n")}
		holdError(t, s, program(t, ahead+behind), at)
	}
}

func holdError(t *testing.T, what string, p api.Program, at api.Pos) {
	t.Helper()
	if err := types.Check(p); !reflect.DeepEqual(err, faults.New(api.Typed, at)) {
		t.Errorf("%s\n%v, want an error at %v", what, err, at)
	}
}

func holdRight(t *testing.T, what string, p api.Program) {
	t.Helper()
	if err := types.Check(p); err != nil {
		t.Errorf("%s\n%v", what, err)
	}
}

// within is a text with each of some others at the place of its #.
func within(about string, texts ...string) []string {
	l := make([]string, len(texts))
	for i, s := range texts {
		l[i] = strings.Replace(about, "#", s, 1)
	}
	return l
}

// body has inputs, outputs and variables of each type, all of them defined.
const body = `type t = A | B; type u = C;
node g(a: int; b: t) returns (c: bool; d: u) let c = a = 1; d = C; tel
node h() returns () let tel
node one() returns (a: int) let a = 1; tel
node f(n: int; c: bool; e: t; o: u) returns (x: int; last y: bool = true)
var v: int; last z: t = A;
let x = n; y = c; v = n; z = e; # tel`

// P8.2: programs in which all types are right.
func TestRightPrograms(t *testing.T) {
	right(t,
		"",
		"type t = A;",
		"node f() returns () let tel",
		"node f() returns (x: int) let x = 1; tel",
		"node f(a: t; b: bool) returns (x: t; y: bool) let x = a; y = not b; tel type t = A;",
		"node f() returns (x: int) let x = g(true); tel node g(a: bool) returns (b: int) let b = 1; tel",
		"node f(a: int when true(b); b: bool) returns (x: int when A(x2); x2: t) let x = 1; x2 = A; tel type t = A | B;",
		"node f(last a: int = -1; last b: bool = false) returns (last x: t = B) let x = B; tel type t = A | B;",
	)
	right(t, within(body,
		"() = h() every c;", "reset do every c and y;", "reset var p: bool; q: u; do (p, q) = g(n, e) every last y; every x = 1;",
		"switch c | true do | false do end;", "switch z | B do | A do end;", "switch o | C do end;", "switch x = v | false do | true do end;",
		"automaton | S do until c then T until x > 1 continue S | T do unless last y then S end;",
		"reset var p: int when A(e); q: u when true(c) when B(r); r: t when true(c); do p = 1; q = o; r = A; every c;",
		"reset var w: u; do w = merge c (true -> o when true(c)) (false -> C); every (0 -> pre x) = 1;",
	)...)
}

// P8.2: first values, which have the type of their variable, wherever it is declared.
func TestFirstValues(t *testing.T) {
	wrong(t,
		"node f(last @a: int = true) returns () let tel",
		"node f(a: bool; last @b: bool = 1) returns () let tel",
		"node f() returns (last @x: bool = -1) let x = true; tel",
		"type t = A; type u = B; node f() returns (last @x: t = B) let x = A; tel",
		"type t = A; node f() returns () var last @x: t = false; let x = A; tel",
		"type t = A; node f() returns () var last @x: int = A; let x = 1; tel",
	)
	wrong(t, within(body,
		"reset var w: int; last @q: bool = 1; do w = 1; q = c; every c;", "switch c | true do | false var last @q: t = C; do q = A; end;", "automaton | S var last @q: u = A; do q = C; end;",
	)...)
	p := program(t, "node f(a: int) returns () let tel")
	p.Nodes[0].Ins[0].First.Kind = api.EBool
	holdRight(t, "a first value that is not used", p)
}

// P8.2: an input or an output is sampled by an input or an output, whichever; other variables don't count.
func TestClocksOfInputsAndOutputs(t *testing.T) {
	wrong(t,
		"node f(@a: int when true(b)) returns () let tel",
		"node f(@a: int when true(b)) returns () var b: bool; let b = true; tel",
		"node f() returns (@x: int when true(b)) var b: bool; let x = 1; b = true; tel",
		"node f(@a: int when true(b); b: int) returns () let tel",
		"node f(@a: int when A(b); b: bool) returns () let tel type t = A;",
		"node f(@a: int when true(b); b: t) returns () let tel type t = A;",
		"node f(@a: int when B(b); b: t) returns () let tel type t = A; type u = B;",
		"node f(@a: int when A(b) when B(b); b: t) returns () let tel type t = A; type u = B;",
		"node f(@a: int when B(b) when A(b); b: t) returns () let tel type t = A; type u = B;",
		"node f(@a: int when Nothing(b); b: t) returns () let tel type t = A;",
		"node f(a: int when true(b); b: bool; @c: int when false(d)) returns () let tel",
		"node f(a: int when false(a2); a2: bool) returns (@x: int when A(a)) let x = 1; tel type t = A;",
		"node f(b: bool) returns (x: int; @y: int when true(x)) let x = 1; y = 2; tel",
		"node f(last @b: int when true(b) = true) returns () let tel",
	)
	right(t,
		"node f(a: bool when true(a); b: int when false(x)) returns (x: bool; y: int when true(a) when false(x)) let x = true; y = 1; tel",
		"node f(a: int when B(b) when A(b); b: t) returns () let tel type t = A | B;",
	)
}

// P8.2: a variable of a block is sampled by any variable that is visible, also a later one.
func TestClocksOfVariables(t *testing.T) {
	node := "type t = A | B; type u = C; node f(i: t; n: int) returns (o: bool) let reset var #; do w = 1; z = C; q = true; every true; o = true; tel"
	right(t, within(node, "w: int when A(i); q: bool; z: u when C(z)", "w: int when true(q) when false(o); q: bool; z: u")...)
	for _, clock := range []string{"when C(i)", "when A(q)", "when true(n)", "when true(w)", "when true(z)", "when B(z)", "when true(i)", "when A(i) when C(i)", "when C(i) when A(i)"} {
		wrong(t, within(node, "q: bool; @w: int "+clock+"; z: u")...)
		wrong(t, "type t = A | B; type u = C; node f(i: t; n: int) returns (o: bool) var q: bool; @w: int "+clock+"; z: u; let w = 1; z = C; q = true; o = true; tel")
	}
	right(t,
		"type t = A | B; type u = C; node f(i: t; n: int) returns (o: bool) var q: bool when A(i); w: int when false(o) when true(q); z: u when C(z); let w = 1; z = C; q = true; o = true; tel",
		"type t = A | B; type u = C; node f(i: t; n: int) returns (o: bool) let o = true; reset var q: bool when A(i); w: int when false(o) when true(q); z: u when C(z); do w = 1; z = C; q = true; reset var x: int when true(q); do x = 1; every o; every o; tel",
	)
}

// P8.2: definitions.
func TestDefinitions(t *testing.T) {
	wrong(t,
		"node f() returns (x: int) let @x = true; tel",
		"node f() returns (x: bool) let @x = 0; tel",
		"type t = A; node f() returns (x: bool) let @x = A; tel",
		"type t = A; type u = B; node f() returns (x: t; y: u) let x = A; @y = A; tel",
		"node f() returns (x: bool) let x = @1 + true; tel",
		"node f() returns (x: bool; y: bool) let x = not @not 1; y = 1; tel",
		"node f() returns () var x: int; let @x = true; tel",
	)
	wrong(t, within(body, "reset var x2: int; do @x2 = c; every n;", "switch c | true do | false var w: t; do @w = C; end;", "automaton | S var w: u; do @w = z; until n then S end;")...)
}

// P8.2: calls: how many there are, then the arguments, what is defined, and when it begins anew.
func TestCalls(t *testing.T) {
	about := strings.Replace(body, "#", "reset var p: bool; q: u; r: int; do # every c;", 1)
	wrong(t, within(about,
		"@(p, q) = g(n); r = 1;", "@(p, q) = g(n, e, n); r = 1;", "@p = g(n, e); q = o; r = 1;", "@(p, q, r) = g(n, e);", "@() = g(n, e); p = c; q = o; r = 1;", "@(p, q) = g(); r = true;",
		"@(p, q) = g(1 + true); r = 1;", "@(p, q) = h(); r = 1;", "() = h(); @() = h(1); p = c; q = o; r = 1;", "@() = one(); p = c; q = o; r = 1;",
		"(p, q) = g(@e, e); r = 1;", "(p, q) = g(n, @n); r = 1;", "(p, q) = g(@c, n) every n; r = 1;", "(p, q) = g(n, @not n); r = 1;", "(p, q) = g(n, @o); r = 1;",
		"@(q, p) = g(n, e); r = 1;", "@(p, r) = g(n, e); q = o;", "@(r, q) = g(n, e); p = c;", "@(p, r) = g(n, e) every n; q = o;", "@p = one(); q = o; r = 1;",
		"(q, p) = g(n, @c); r = 1;", "(p, q) = g(n, e) every @n; r = true;", "(p, q) = g(n, e) every @z; r = 1;", "(p, q) = g(n, e) every c and @not x; r = 1;", "() = h() every @not o; p = c; q = o; r = 1;",
	)...)
	right(t, within(about, "(p, q) = g(n, e) every c; r = one();", "(p, q) = g(x + v, z); r = one() every 1 > n;")...)
}

// P8.2: resets: the block, and then when it begins anew.
func TestResets(t *testing.T) {
	wrong(t, within(body,
		"reset do every @n;", "reset do every @e;", "reset do every c and @not n;", "reset var w: int; do @w = c; every n;", "reset do reset do every @z; every n;", "reset do every c; reset do every @o;",
	)...)
}

// P8.2: switches: what is asked, the arms one by one, and whether they are all.
func TestSwitches(t *testing.T) {
	wrong(t, within(body,
		"switch @n | true do | false do end;", "switch @n + 1 | A do end;", "switch @not n | true do end;", "switch @n | true var w: int; do w = true; end;",
		"switch c | true do | @A do | false do end;", "switch c | true do | @true do end;", "switch e | A do | B do | @A do end;", "switch e | @C do | A do | B do end;", "switch e | @true do end;", "switch o | C do | @C do end;",
		"switch o | C do | @D do end;", "@switch c | true do end;", "@switch c | false do end;", "@switch e | B do end;",
		"switch c | true var w: int; do @w = c; | true do end;", "switch e | A do | B var w: int; do @w = c; end;", "switch e | A var w: int; do @w = c; end;", "switch e | @C var w: int; do w = c; end;",
		"switch c | true do @switch e | A do end; | false do switch n | A do end; end;",
	)...)
}

// P8.2: automata: of each state what leaves it strongly, its block, and what leaves it weakly.
func TestAutomata(t *testing.T) {
	wrong(t, within(body,
		"automaton | S do unless @n then S end;", "automaton | S do until @n then S end;", "automaton | S do until @e continue S end;", "automaton | S do unless c then S unless @o then S end;",
		"automaton | S do unless c and @not n then S end;", "automaton | S do until c then S until c and @not n then S end;",
		"automaton | S do @unless pre c then S end;", "automaton | S do @until true -> c then S end;", "automaton | S do until c then S @until not (false fby y) continue S end;",
		"automaton | S do unless @pre n then S end;", "automaton | S do until @0 fby n then S end;", "automaton | S do unless @not pre n then S end;",
		"automaton | S var w: int; do @w = c; until n then S end;", "automaton | S var w: int; do w = c; unless @n then S end;", "automaton | S do unless c then S | T do unless @n then S end;",
		"automaton | S do until @n then S | T do unless n then S end;", "automaton | S do @unless pre c then S until n then S end;", "automaton | S do @until pre c then S until n then S end;",
		"automaton | S var w: int; do w = 1; until @w then S end;",
	)...)
	right(t, within(body, "automaton | S var w: bool; do w = pre c; unless c then T until w then S until last y then T | T var w: int; do w = 1; until w = 1 continue S end;")...)
}

// P8.2: the first error in the order of the chapter counts, wherever the others stand.
func TestWhichErrorIsFirst(t *testing.T) {
	wrong(t,
		"node f() returns (x: int) let @x = true; tel node g(last a: int = true) returns () let tel",
		"node g(last @a: int = true) returns () let tel node f() returns (x: int) let x = true; tel",
		"node f(a: int; last @b: int = true) returns (last x: int = true) let x = true; tel",
		"node f() returns (last @x: int = true) var last w: int = true; let x = true; w = 1; tel",
		"node f() returns (x: int) var last @w: int = true; let x = true; w = 1; tel",
		"node f() returns () var w: int; last @z: int = true; let w = 1 + true; z = 1; tel",
		"node f() returns (x: int) var w: int; let w = 1; @x = true; reset var last w2: int = true; do w2 = 1; every true; tel",
		"node f(@a: int when true(a); last b: int = true) returns () let tel",
		"node f(last @b: int = true; a: int when true(a)) returns () let tel",
	)
}
