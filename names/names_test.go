package names_test

import (
	"reflect"
	"strings"
	"testing"

	"metronome/api"
	"metronome/faults"
	"metronome/names"
	"metronome/parse"
	"metronome/tree"
)

// program is the program of a text.
func program(t *testing.T, s string) api.Program {
	t.Helper()
	p, err := parse.Program(s)
	if err != nil {
		t.Fatalf("%s\n%v", s, err)
	}
	return p
}

// right holds the texts to have no error.
func right(t *testing.T, texts ...string) {
	t.Helper()
	for _, s := range texts {
		if err := names.Check(program(t, s)); err != nil {
			t.Errorf("%s\n%v", s, err)
		}
	}
}

// wrong holds the texts to an error: its kind, and its place, which is where the text has an @ (which itself is left out).
func wrong(t *testing.T, k api.Kind, texts ...string) {
	t.Helper()
	for _, s := range texts {
		ahead, behind, ok := strings.Cut(s, "@")
		if !ok {
			t.Errorf("%q has no place", s)
		}
		at := api.Pos{Line: 1 + strings.Count(ahead, "\n"), Col: len(ahead) - strings.LastIndex(ahead, "\n")}
		holdError(t, s, program(t, ahead+behind), k, at)
	}
}

func holdError(t *testing.T, what string, p api.Program, k api.Kind, at api.Pos) {
	t.Helper()
	if err := names.Check(p); !reflect.DeepEqual(err, faults.New(k, at)) {
		t.Errorf("%s\n%v, want %v at %v", what, err, k, at)
	}
}

// within is a text with each of some others at the place of its #.
func within(about string, texts ...string) []string {
	l := make([]string, len(texts))
	for i, s := range texts {
		l[i] = strings.Replace(about, "#", s, 1)
	}
	return l
}

// body has inputs n, c and e, outputs x and l, and variables v and m; l and m have last values. The output x is still to be defined.
const body = `type t = A | B; type u = C;
node g(a: int) returns (b: int) let b = a; tel
node f(n: int; c: bool; e: t) returns (x: int; last l: int = 0)
var v: int; last m: int = 1;
let v = n; m = v; l = m; # tel`

// P7.1: programs in which every name is there, once.
func TestRightPrograms(t *testing.T) {
	right(t,
		"",
		"type t = A;",
		"type t = A | B; type u = C;",
		"node f() returns () let tel",
		"node f() returns (x: int) let x = 1; tel",
		"node f(a: t) returns (x: t) let x = a; tel type t = A;",
		"node f() returns () let () = g(); tel node g() returns () let tel",
		"node f(a: int when A(x); b: int when Z(nothing)) returns (x: int when Z(nothing)) let x = a; tel",
	)
	right(t, within(body,
		"x = n;", "x = x + l + m + v;", "x = last l + last m;", "x = g(n);", "(x) = g(n) every c;", "x = A;",
		"x = merge e (A -> n) (B -> v);", "x = merge c (true -> n when true(c)) (false -> 0 when false(c));", "x = n when C(c);",
		"reset do x = 1; every c;", "reset do reset do x = 1; every c; every x = 1;", "reset var w: int when A(z); z: t; do x = 1; w = 2; z = B; every c;",
		"x = 1; () = g(n, n);", "x = 1 fby x;",
	)...)
}

// P7.1: a type and a node may have one name, as may all that isn't visible at once: the variables of different nodes and blocks, the states of different automata.
func TestNamesThatMayOccurAgain(t *testing.T) {
	right(t,
		"type f = F; node f(x: f) returns (f: f) let f = x; tel node g(x: f) returns () let automaton | F do automaton | F do until true then F end; until true then F end; tel",
		"node f(a: bool) returns () let switch a | true var w: int; do w = 1; | false var w: bool; do w = a; end; reset var w: int; do w = 2; every a; tel",
		"node f(a: bool) returns () let automaton | F var w: int; do w = 1; until w = 1 then G | G var w: int; do w = 1; until w = 1 then F end; tel",
		"node f(a: bool) returns (b: bool) let switch a | true do switch a | true do b = a; | true do b = true; end; | true do b = a; end; tel",
	)
}

// P7.1, 1: types.
func TestTypes(t *testing.T) {
	wrong(t, api.Twice,
		"type t = A; type @t = B;",
		"type t = A; type u = B;\n type @t = C; type u = A;",
		"type @t = A | A;",
		"type @t = A | B | C | B;",
		"type t = A | B; type @u = C | B;",
		"type t = A; type @u = A; type t = C;",
	)
}

// P7.1, 2: nodes. Types come first, wherever they stand.
func TestNodes(t *testing.T) {
	wrong(t, api.Twice,
		"node f() returns () let tel node @f() returns () let tel",
		"node f() returns () let tel node g() returns () let tel node @g() returns () let tel node f() returns () let tel",
		"node f() returns () let tel node f() returns () let tel type t = A; type @t = B;",
		"node f(a: nothing) returns () let tel node g() returns () let () = g(); tel node @f() returns () let tel",
	)
}

// P7.1, 3: a variable whose name is visible already.
func TestVariablesTwice(t *testing.T) {
	wrong(t, api.Twice,
		"node f(a: int; b: int; @a: int) returns () let tel",
		"node f(a: int) returns (b: int; @a: int) let tel",
		"node f(a: int) returns (b: int; @b: int) let tel",
		"node f(a: int) returns (b: int) var c: int; @a: int; let tel",
		"node f(a: int) returns (b: int) var c: int; @b: int; let tel",
		"node f(a: int) returns (b: int) var c: int; @c: int; let tel",
		"node f(a: int; @a: nothing) returns () let tel",
		"node f(a: int; last @a: int = Nothing) returns () let tel",
	)
	wrong(t, api.Twice, within(body,
		"x = 1; reset var @n: int; do every c;", "x = 1; reset var @x: int; do every c;", "x = 1; reset var @m: int; do every c;", "x = 1; reset var w: int; @w: int; do every c;",
		"reset var w: int; do w = 1; reset do reset var @w: int; do every c; every c; every c;",
		"switch c | true var @v: int; do x = 1; end;", "automaton | S var w: int; do w = 1; reset var @w: int; do every c; end;",
	)...)
}

// P7.1, 3: a variable whose type isn't there.
func TestTypesOfVariables(t *testing.T) {
	wrong(t, api.Name,
		"node f(a: int; @b: t) returns () let tel",
		"type t = A; node f(a: t; @b: u; a: int) returns () let tel",
		"node f() returns (@a: t) let tel",
		"node f() returns () var @a: t; let tel",
		"node f() returns (last @a: t = A) let tel",
		"node f() returns () var @f: f; let tel",
	)
	wrong(t, api.Name, within(body, "reset var w: t; @z: v; do every c;", "switch c | true var @z: c; do end;", "automaton | S var @z: x; do end;")...)
	for _, kind := range []byte{0, 4} {
		p := program(t, "type t = A; node f(a: t) returns () let tel")
		v := &p.Nodes[0].Ins[0]
		v.T.Kind = kind
		holdError(t, "a type that is none", p, api.Name, v.At)
	}
}

// P7.1, 3: the clocks of inputs and outputs are not asked, those of the variables of a block once all of these are visible.
func TestClocks(t *testing.T) {
	node := "type t = A; node f(i: t) returns (o: int) let reset var #: int; do w = 1; z = 1; every true; o = 1; tel"
	right(t, within(node, "w: int when A(i); z", "w: int when true(o) when false(i); z", "w: int when A(z); z", "w: int when A(w); z")...)
	wrong(t, api.Name, within(node,
		"@w: int when A(nothing); z", "@w: int when B(i); z", "@w: int when A(i) when B(z); z", "@w: int when A(i) when A(f); z", "w: int when A(i); @y: int when A(t); z",
		"@w: int when B(i); z: int when B(i); y", "w: int when B(i); @z: u; y",
	)...)
	wrong(t, api.Twice, within(node, "w: int when B(i); z: int when B(i); @z")...)
	wrong(t, api.Name,
		"node f() returns () var @a: int when true(nothing); let b = 1; tel",
		"node f(a: int) returns () var @b: int when A(a); let tel",
		"node f(a: int) returns () let reset var w: int; do w = 1; every true; reset var @z: int when true(w); do every true; tel",
		"node f(a: bool) returns () let switch a | true var w: bool; do w = a; | false var @z: int when true(w); do end; tel",
	)
}

// P7.1: of an expression, first its kids, and then itself.
func TestExpressions(t *testing.T) {
	wrong(t, api.Name, within(body,
		"x = @y;", "x = @f;", "x = @t;", "x = @D;", "x = @last y;", "x = @last n;", "x = @last x;", "x = @last v;", "x = @last f;",
		"x = @n when A(y);", "x = @n when D(c);", "x = @1 when true(g);", "x = last l when true(c) + @n when A(y);", "x = (@y) when D(z);",
		"x = @merge y (A -> n);", "x = @merge e (A -> n) (D -> n);", "x = @merge c (true -> n) (false -> n) (D -> n);", "x = @merge t (true -> n);",
		"x = merge y (D -> n) (D -> @z);", "x = merge e (A -> n) (B -> @z);",
		"x = @y + z;", "x = n + @z;", "x = not @y;", "x = - @y;", "x = pre @y;", "x = 0 fby @y;", "x = @D fby y;", "x = @y -> z;", "x = n -> @z;",
		"x = if @y then z else w;", "x = if n then @z else w;", "x = if n then n else @w;", "x = (@y + z) when D(w);", "x = n + (v + (l + (m + @z)));",
	)...)
	p := program(t, "type t = A; node f(a: bool) returns (b: bool) let b = a; tel")
	e := &p.Nodes[0].B.Eqs[0].E
	for _, name := range []string{"true", "false"} {
		*e = tree.Ctor(name)
		e.At = api.Pos{Line: 5, Col: 6}
		holdError(t, name+", which no type has", p, api.Name, e.At)
		p.Enums[0].Ctors = append(p.Enums[0].Ctors, name)
		holdError(t, name+", which a type has", p, api.OK, api.Pos{})
	}
	*e = tree.When(tree.Name("a"), api.On{Ctor: "A", Var: "a"})
	e.At = api.Pos{Line: 7, Col: 8}
	holdError(t, "a constructor", p, api.OK, api.Pos{})
	e.Names = nil
	holdError(t, "no constructor", p, api.Name, e.At)
}

// P7.1: calls, resets and switches: what is in them, in its order, and what it sees.
func TestEquations(t *testing.T) {
	wrong(t, api.Name, within(body,
		"@x = h(y);", "@() = n(); x = 1;", "@(x, v) = t(n);", "@x = x(n);", "x = g(@y) every z;", "x = g(n, @y);", "x = g(n, n, n) every @z;", "@x = h(n) every z;", "v = g(@y);", "n = g(@y);", "v = @y;", "n = @y;",
		"reset do x = @y; every z;", "reset do x = 1; every @z;", "reset var w: bool; do w = c; x = 1; every @w;", "reset var @w: bool; do x = 1; every z;", "reset do v = 1; every @z;",
		"switch @y | A do x = z; end;", "switch e | A do x = @z; | B do x = y; end;", "switch e | A do x = 1; | B do x = @y; end;", "switch @w | A var w: t; do w = e; x = 1; end;", "switch e | A do | B do x = @y; end;",
		"switch e | A var w: int; do w = 1; x = 1; | B do x = @w; end;", "switch e | A do x = 1; reset var w: int; do w = 1; every c; v = @w; end;",
	)...)
	right(t, within(body, "switch e | A do x = 1; | A do x = 2; | Nothing do x = n; end;", "switch e | A var w: t; do w = A; switch w | B do x = 1; end; end;")...)
}

// P7.1: which variables an equation may define.
func TestDefinedWhereTheyMayNotBe(t *testing.T) {
	wrong(t, api.Name, within(body,
		"@n = 1; x = 1;", "@y = 1;", "@f = 1;", "@t = 1;", "@(x, n) = g(1);", "@(n, x, x) = g(1);", "@(y, v) = g(1);", "@(n) = g(1); n = 2;",
		"reset do @n = 1; every c;", "reset var w: int; do w = 1; every c; @w = 2;", "reset do reset var w: int; do w = 1; every c; @w = 2; every c;",
		"x = 1; switch c | true var w: int; do w = 1; | false do @w = 1; end;", "automaton | S var w: int; do w = 1; | T do @w = 1; end;",
	)...)
	wrong(t, api.Name, "node f(last a: int = 1) returns () let @a = 1; tel")
}

// P7.1: a variable that is defined again in its block.
func TestDefinedTwice(t *testing.T) {
	wrong(t, api.Twice, within(body,
		"x = 1; @x = 2;", "@v = 1; x = 1;", "@(x, x) = g(1);", "@(x, v) = g(1);", "x = 1; @(x) = g(1);", "@(x, v, n) = g(1);", "@(x, x, n) = g(1);",
		"x = 1; @reset do x = 1; every c;", "x = 1; @switch e | A do x = 1; | B do x = 1; end;", "x = 1; @switch e | A do | B do l = 1; end;", "@automaton | S do x = 1; l = 2; end;",
		"reset do x = 1; every c; @x = 2;", "reset do x = 1; @x = 2; every c;", "reset do x = 1; every c; @reset do x = 1; every c;",
		"x = 1; reset var w: int; do w = 2; @w = 3; every c;", "x = 1; reset var w: int; do w = 2; @reset do reset do w = 3; every c; every c; every c;",
	)...)
}

// P7.1: variables of blocks, and outputs, that nothing defines.
func TestNotDefined(t *testing.T) {
	wrong(t, api.Name,
		"node f() returns () var @a: int; b: int; let tel",
		"node f() returns () var a: int; @b: int; let a = 1; tel",
		"node f() returns () var last @a: int = 1; let tel",
		"node f() returns (@x: int) let tel",
		"node f() returns (x: int; last @y: int = 1; z: int) let x = 1; tel",
		"node f() returns (x: int) var @a: int; let tel",
		"node f(a: int) returns (x: int; @y: int) let reset var w: int; do x = 1; w = 2; every true; tel",
	)
	wrong(t, api.Name, within(body,
		"x = 1; reset var @w: int; do every c;", "switch c | true var w: int; @z: int; do x = 1; w = 2; | false do x = 1; end;", "automaton | S do x = 1; | T var last @w: int = 1; do x = 1; end;",
		"reset var w: int; @z: int; do w = 2; reset do x = 1; every c; every c;",
	)...)
	right(t, within(body, "reset var w: int; do reset do w = 1; x = w; every c; every c;", "reset var w: int; do switch c | true do w = 1; | false do w = 2; end; x = w; every c;")...)
}

// P7.1: the states of an automaton: their names, and what leaves them.
func TestStates(t *testing.T) {
	wrong(t, api.Twice, within(body,
		"automaton | S do x = 1; | @S do x = 1; end;", "automaton | S do x = 1; | T do x = 1; | @S do x = y; unless y then U end;", "automaton | S do x = 1; @x = 2; until y then U end;",
	)...)
	wrong(t, api.Name, within(body,
		"automaton | S do x = 1; @unless c then U end;", "automaton | S do x = 1; @until c then U end;", "automaton | S do x = 1; unless c then S @unless c continue A end;", "automaton | S do x = 1; until c then S @until c continue U until c then U end;",
		"automaton | S do x = 1; unless @y then U end;", "automaton | S do x = 1; until @y then U end;",
		"automaton | S do x = y; @unless c then U until c then U end;", "automaton | S do x = @y; unless c then S until c then U end;",
		"automaton | S do x = @y; | S do x = 1; end;", "automaton | S do x = 1; unless @y then S | S do x = 1; end;", "automaton | S do x = 1; until @y then S | S do x = 1; end;",
		"automaton | S var w: int; do x = 1; @until c then U end;", "automaton | S var @w: int; do x = 1; until c then S end;",
		"automaton | S var w: bool; do w = c; x = 1; unless @w then S end;", "automaton | S var w: bool; do w = c; x = 1; until w then T | T do x = 1; until @w then S end;",
		"automaton | S do x = 1; reset var w: bool; do w = c; every c; until @w then S end;",
		"automaton | S do automaton | P do x = 1; @until c then S end; until c then S end;", "automaton | S do automaton | P do x = 1; until c then P end; @unless c then P end;",
		"x = 1; automaton | S do until c then S end; automaton | T do @until c then S end;", "automaton | S do until @y then S | T do x = 1; end;",
	)...)
	right(t, within(body,
		"automaton | S do x = 1; unless c then T until c then S | T do x = 2; until c continue S end;",
		"automaton | S var w: int; last z: int = 3; do w = n; z = w; x = last z; unless last l = v then S until w = last z then S until x = v then S end;",
	)...)
}

// P7.1: what one arm defines all must, but for what has a last value.
func TestArmsThatDoNotDefine(t *testing.T) {
	node := "node f(c: bool) returns (x: int; last l: int = 0; y: int) let # tel"
	right(t, within(node,
		"y = 1; switch c | true do x = 1; | false do l = 3; x = 2; end;", "switch c | true do x = 1; y = 1; l = 1; | false do y = 2; x = 2; end;", "y = 1; automaton | S do x = 1; l = 1; | T do x = 1; end;",
		"y = 1; switch c | true var w: int; do w = 1; x = 1; l = 1; | false do x = 2; end;", "l = 1; x = 1; reset var last w: int = 0; do switch c | true do w = 1; | false do end; y = 1; every c;",
		"l = 1; switch c | true do x = 1; y = 1; | false do switch c | true do x = 1; | true do x = 1; end; y = 1; end;",
	)...)
	wrong(t, api.Name, within(node,
		"switch c | @true do | false do x = 1; end;", "switch c | true do x = 1; | @false do end;", "switch c | true do x = 1; l = 1; | @false do l = 3; end;", "automaton | @S do l = 1; | T do x = 1; end;",
		"switch c | @true do x = 1; | false do y = 1; end;", "automaton | S do x = 1; y = 1; | T do y = 2; x = 2; | @U do y = 1; | V do x = 1; end;", "automaton | S do x = 1; y = 1; l = 1; | @T do x = 1; l = 1; end;",
		"switch c | true do switch c | true do x = 1; | @false do end; | false do end;", "switch c | @true do | false do switch c | true do x = 1; | false do x = 1; end; end;",
		"reset var w: int; do switch c | true do w = 1; | @false do end; every c;", "switch c | @true var w: int; do w = 1; | false do x = 1; end;",
		"switch c | true do | false do x = @z; end;", "x = 1; switch c | @true do | false do x = 1; end;", "automaton | S do x = 1; | T do @until c then U end;",
	)...)
}

// P7.1: the first error in the order of the chapter counts, wherever the others stand.
func TestWhichErrorIsFirst(t *testing.T) {
	wrong(t, api.Name,
		"node f() returns (@x: int) let tel node g(a: nothing) returns () let tel",
		"node f() returns () let () = f(); tel node g() returns (@x: int) let tel",
		"node f(a: bool; @b: nothing) returns (a: bool; x: int) let tel",
		"node f() returns (x: int; @y: nothing) var x: int; let tel",
		"node f() returns (x: int) var a: int; @b: nothing; a: int; let y = 1; tel",
		"node f() returns (x: int) var a: int; @b: int when A(a); let y = 1; tel",
		"node f() returns (x: int) var a: int; let @y = 1; tel",
		"node f() returns (x: int) var @a: int; let tel",
	)
	wrong(t, api.Twice, "node f(a: int) returns (@a: int) var b: nothing; let tel")
}

// P7.1, 4: nodes that need themselves.
func TestLoops(t *testing.T) {
	wrong(t, api.Loop,
		"node @f() returns () let () = f(); tel",
		"node @f() returns () let () = g(); tel node g() returns () let () = f(); tel",
		"node f() returns () let () = g(); tel node @g() returns () let () = h(); tel node h() returns () let () = g(); tel",
		"node a() returns () let tel node b() returns () let () = a(); () = c(); tel node @c() returns () let () = d(); tel node d() returns () let () = a(); () = e(); tel node e() returns () let () = c(); tel",
		"node f() returns () let tel node @g() returns () let () = g(); tel node h() returns () let () = h(); tel",
		"node @f(c: bool) returns () let reset do switch c | true do | false do automaton | S do | T do () = f(c); end; end; every c; tel",
	)
	right(t,
		"node a() returns () let () = b(); () = c(); () = b(); tel node b() returns () let () = d(); tel node c() returns () let () = d(); tel node d() returns () let tel",
		"node f(f: bool) returns () let automaton | S do until f then S end; tel",
	)
}
