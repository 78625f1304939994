package parse_test

import (
	"reflect"
	"strings"
	"testing"

	"metronome/api"
	"metronome/faults"
	"metronome/parse"
)

// expr is the expression of a text that has one.
func expr(t *testing.T, s string) api.Expr {
	t.Helper()
	e, err := parse.Expr(s)
	if err != nil {
		t.Errorf("Expr(%.200q): %v", s, err)
		return e
	}
	neat(t, e)
	return e
}

// program is the program of a text that has one.
func program(t *testing.T, s string) api.Program {
	t.Helper()
	p, err := parse.Program(s)
	if err != nil {
		t.Errorf("Program(%.200q): %v", s, err)
		return p
	}
	neatProgram(t, p)
	return p
}

// hold holds a text against the one that is wanted.
func hold(t *testing.T, s, got, want string) {
	t.Helper()
	if got != want {
		t.Errorf("%s\ngot:  %s\nwant: %s", s, got, want)
	}
}

// eqs holds the equations of a text, as those of a node, against what is wanted.
func eqs(t *testing.T, s, want string) {
	t.Helper()
	p := program(t, "node f() returns () let "+s+" tel")
	hold(t, s, teller{}.program(p), "node f [] [] "+want+"\n")
}

// wrong holds the texts to an error: its kind, and its place, which is where the text has an @ (which itself is left out).
func wrong[T any](t *testing.T, parse func(string) (T, error), k api.Kind, texts ...string) {
	t.Helper()
	for _, s := range texts {
		ahead, behind, ok := strings.Cut(s, "@")
		if !ok {
			t.Errorf("%q has no place", s)
		}
		at := api.Pos{Line: 1 + strings.Count(ahead, "\n"), Col: len(ahead) - strings.LastIndex(ahead, "\n")}
		got, err := parse(ahead + behind)
		if !reflect.DeepEqual(err, faults.New(k, at)) {
			t.Errorf("%.300q: %v, want %v at %v", s, err, k, at)
		}
		var none T
		if !reflect.DeepEqual(got, none) {
			t.Errorf("%.300q: %v beside an error", s, got)
		}
	}
}

// wrongEq is wrong for texts of equations of a node.
func wrongEq(t *testing.T, k api.Kind, texts ...string) {
	t.Helper()
	for _, s := range texts {
		wrong(t, parse.Program, k, "node f() returns () let "+s+" tel")
	}
}

// P6.1: the example of the chapter, and each kind of expression.
func TestExpressions(t *testing.T) {
	for _, x := range [][2]string{
		{"1 + 2 * x", "(+ 1 (* 2 x))"},
		{"0", "0"}, {"007", "7"}, {"2147483647", "2147483647"},
		{"true", "true"}, {"false", "false"}, {"Red", "Red"}, {"x_1", "x_1"}, {"last x", "last:x"},
		{"not a", "(not a)"}, {"- a", "(neg a)"}, {"pre a", "(pre a)"},
		{"not - pre not a", "(not (neg (pre (not a))))"},
		{"if a then b else c", "(if a b c)"},
		{"0 fby b", "(fby 0 b)"}, {"a -> b", "(-> a b)"},
		{"a when C(v)", "(when a C:v)"}, {"a when true(v)", "(when a true:v)"}, {"a when false(v)", "(when a false:v)"},
		{"merge v (C -> a)", "(merge v C:a)"},
		{"merge v (C -> a) (D -> 1)", "(merge v C:a D:1)"},
		{"merge v (true -> a) (false -> b)", "(merge v true:a false:b)"},
		{"(((a)))", "a"},
		{" \t\n-- remark\n a -- + b\n", "a"},
	} {
		hold(t, x[0], teller{}.expr(expr(t, x[0])), x[1])
	}
}

// P6.1: a - ahead of a number belongs to it, if it stands where a unary one does.
func TestNegativeNumbers(t *testing.T) {
	for _, x := range [][2]string{
		{"-1", "-1"}, {"- 1", "-1"}, {"-0", "0"}, {"-2147483648", "-2147483648"}, {"-\n2147483648", "-2147483648"}, {"-002147483648", "-2147483648"},
		{"-(1)", "(neg 1)"}, {"- -1", "(neg -1)"}, {"-(-1)", "(neg -1)"}, {"not -1", "(not -1)"}, {"- - -2147483648", "(neg (neg -2147483648))"},
		{"1 - 1", "(- 1 1)"}, {"1-1", "(- 1 1)"}, {"1 - -1", "(- 1 -1)"}, {"1 - - 2147483648", "(- 1 -2147483648)"}, {"1 - - -1", "(- 1 (neg -1))"},
		{"-1 when C(v)", "(when -1 C:v)"}, {"-1 fby x", "(fby -1 x)"}, {"-1 + 2", "(+ -1 2)"}, {"-x + 2", "(+ (neg x) 2)"},
		{"-1 when C(v) when D(w)", "(when (when -1 C:v) D:w)"},
	} {
		hold(t, x[0], teller{}.expr(expr(t, x[0])), x[1])
	}
}

// P6.1: what binds how far.
func TestGrouping(t *testing.T) {
	for _, x := range [][2]string{
		{"a -> b -> c", "(-> a (-> b c))"},
		{"0 fby 1 fby x", "(fby 0 (fby 1 x))"},
		{"0 fby x -> y", "(fby 0 (-> x y))"},
		{"a -> 0 fby x", "(-> a (fby 0 x))"},
		{"a + b -> c + d", "(-> (+ a b) (+ c d))"},
		{"(a -> b) -> c", "(-> (-> a b) c)"},
		{"C fby x + 1", "(fby C (+ x 1))"},
		{"(1) fby x", "(fby 1 x)"}, {"((-1)) fby x", "(fby -1 x)"}, {"true fby x", "(fby true x)"}, {"false fby x", "(fby false x)"},
		{"(0 fby x) + 1", "(+ (fby 0 x) 1)"},
		{"if a then b else c + d", "(if a b (+ c d))"},
		{"if a then b else c -> d", "(if a b (-> c d))"},
		{"if a -> b then c -> d else e", "(if (-> a b) (-> c d) e)"},
		{"if if a then b else c then if d then e else g else if h then i else j", "(if (if a b c) (if d e g) (if h i j))"},
		{"1 + (if a then b else c)", "(+ 1 (if a b c))"},
		{"not a when C(v)", "(not (when a C:v))"}, {"- a when C(v)", "(neg (when a C:v))"}, {"pre a when C(v)", "(pre (when a C:v))"},
		{"(not a) when C(v)", "(when (not a) C:v)"},
		{"a when C(v) when true(w)", "(when (when a C:v) true:w)"},
		{"last x when C(v)", "(when last:x C:v)"}, {"1 when C(v)", "(when 1 C:v)"}, {"Red when C(v)", "(when Red C:v)"}, {"true when C(v)", "(when true C:v)"},
		{"(a + b) when C(v)", "(when (+ a b) C:v)"},
		{"merge v (C -> a) when D(w)", "(when (merge v C:a) D:w)"},
		{"merge v (C -> a -> b) (D -> if c then 1 else 2)", "(merge v C:(-> a b) D:(if c 1 2))"},
		{"merge v (C -> merge w (true -> a)) (D -> 0 fby b)", "(merge v C:(merge w true:a) D:(fby 0 b))"},
		{"a + b when C(v)", "(+ a (when b C:v))"},
		{"not a and not b", "(and (not a) (not b))"}, {"not a = b", "(= (not a) b)"}, {"a = not b", "(= a (not b))"}, {"pre a + pre b", "(+ (pre a) (pre b))"},
		{"a * - b", "(* a (neg b))"},
		{"(a + b) * c", "(* (+ a b) c)"}, {"a - (b - c)", "(- a (- b c))"},
		{"(a = b) = c", "(= (= a b) c)"}, {"a = (b = c)", "(= a (= b c))"}, {"a = b and c = d", "(and (= a b) (= c d))"}, {"a < b or c > d xor e <> g", "(xor (or (< a b) (> c d)) (<> e g))"},
	} {
		hold(t, x[0], teller{}.expr(expr(t, x[0])), x[1])
	}
}

// levels are the binary operators by their precedence, the weakest first (P2.2).
var levels = [...]string{" or xor ", " and ", " = <> < <= > >= ", " + - ", " * / mod "}

// level is the precedence of a binary operator, and comparison that of those that must not follow one another.
func level(op string) int {
	for i, l := range levels {
		if strings.Contains(l, " "+op+" ") {
			return i
		}
	}
	return -1
}

const comparison = 2

// grouped tells the operands a, b, c .. from the first one on, joined by operators: the last one of the weakest splits them.
func grouped(first byte, ops []string) string {
	if len(ops) == 0 {
		return string(first)
	}
	at := 0
	for i, op := range ops {
		if level(op) <= level(ops[at]) {
			at = i
		}
	}
	return "(" + ops[at] + " " + grouped(first, ops[:at]) + " " + grouped(first+byte(at)+1, ops[at+1:]) + ")"
}

// tooMany is the place of the first comparison that follows another one, or -1.
func tooMany(ops []string) int {
	open := false
	for i, op := range ops {
		if level(op) == comparison && open {
			return i
		}
		open = level(op) == comparison || open && level(op) > comparison
	}
	return -1
}

// P6.1, P6.2: all chains of up to three operators.
func TestOperators(t *testing.T) {
	all := strings.Fields(strings.Join(levels[:], ""))
	if len(all) != 14 {
		t.Fatalf("the operators are %v", all)
	}
	var chains func(ops []string, text string)
	chains = func(ops []string, text string) {
		text += string(rune('a' + len(ops)))
		if i := tooMany(ops); i >= 0 {
			parts := strings.SplitAfterN(text, " ", 2*i+2) // ends with the operator that is one too many, and what follows it
			parts[len(parts)-1] = "@" + parts[len(parts)-1]
			wrong(t, parse.Expr, api.Syntax, strings.Join(parts, ""))
		} else {
			hold(t, text, teller{}.expr(expr(t, text)), grouped('a', ops))
		}
		if len(ops) == 3 {
			return
		}
		for _, op := range all {
			chains(append(ops[:len(ops):len(ops)], op), text+" "+op+" ")
		}
	}
	chains(nil, "")
}

// P6.1: definitions and calls.
func TestDefinitionsAndCalls(t *testing.T) {
	eqs(t, "x = 1;", "(def x 1)")
	eqs(t, "(x) = y;", "(def x y)") // a single name, in parentheses
	eqs(t, "x = f;", "(def x f)")
	eqs(t, "x = (f);", "(def x f)")
	eqs(t, "x = if a then b else c;", "(def x (if a b c))")
	eqs(t, "x = f();", "(call x f)")
	eqs(t, "(x) = f();", "(call x f)")
	eqs(t, "() = f(1);", "(call  f 1)")
	eqs(t, "(x, y) = f(a, -1, a + b, if a then b else c);", "(call x,y f a -1 (+ a b) (if a b c))")
	eqs(t, "(x, y, z) = f() every a -> b;", "(call x,y,z f every (-> a b))")
	eqs(t, "x = f(g) every last r;", "(call x f g every last:r)")
	eqs(t, "x = 1; y = 2; x = 3;", "(def x 1) (def y 2) (def x 3)")
}

// P6.1: switches.
func TestSwitches(t *testing.T) {
	eqs(t, "switch c | A do end;", "(switch c <A>)")
	eqs(t, "switch a = b | true do x = 1; | false do end;", "(switch (= a b) <true (def x 1)> <false>)")
	eqs(t, "switch f | A var y: int; z: bool; do x = y; y = 2; | B var w: t; do switch b | true do end; x = 1; end;",
		"(switch f <A [y:int z:bool] (def x y) (def y 2)> <B [w:enum-t] (switch b <true>) (def x 1)>)")
}

// P6.1: automata.
func TestAutomata(t *testing.T) {
	eqs(t, "automaton | S do end;", "(auto <S>)")
	eqs(t, "automaton | S do x = 1; unless a then T unless b continue S until c then S until d continue T | T var y: int; do end;",
		"(auto <S (def x 1) (unless a then T) (unless b continue S) (until c then S) (until d continue T)> <T [y:int]>)")
	eqs(t, "automaton | S do until if a then b else c then S | T do unless a -> b continue T end;",
		"(auto <S (until (if a b c) then S)> <T (unless (-> a b) continue T)>)")
}

// P6.1: resets.
func TestResets(t *testing.T) {
	eqs(t, "reset do every r;", "(reset <> r)")
	eqs(t, "reset var y: int; do x = f() every a; y = 1; every r or s;", "(reset < [y:int] (call x f every a) (def y 1)> (or r s))")
	eqs(t, "reset do reset do x = 1; every a; automaton | S do end; every b;", "(reset < (reset < (def x 1)> a) (auto <S>)> b)")
}

// P6.1: types, nodes and variables.
func TestPrograms(t *testing.T) {
	for _, x := range [][2]string{
		{"", ""},
		{" -- nothing\n", ""},
		{"type t = A;", "type t A\n"},
		{"type t = A | B | C; type u = A;", "type t A|B|C\ntype u A\n"},
		{"node f() returns () let tel", "node f [] []\n"},
		{"node f(a: int) returns (x: bool; y: t) let tel", "node f [a:int] [x:bool y:enum-t]\n"},
		{"node f(a: int; b: bool) returns () var c: t; d: int; let c = a; tel", "node f [a:int b:bool] [] [c:enum-t d:int] (def c a)\n"},
		{"node f(last a: int = 1; b: int) returns (last x: t = A) var last c: bool = false; d: int; last e: int = -1; let tel",
			"node f [last:a:int=1 b:int] [last:x:enum-t=A] [last:c:bool=false d:int last:e:int=-1]\n"},
		{"node f(a: int when C(v); b: t when true(v) when D(w)) returns () var last c: int when C(v) when false(w) = 3; let tel",
			"node f [a:int/C:v b:enum-t/true:v/D:w] [] [last:c:int/C:v/false:w=3]\n"},
		{"node f(last a: int = (1); last b: int = ((-1)); last c: int = -2147483648) returns () let tel", "node f [last:a:int=1 last:b:int=-1 last:c:int=-2147483648] []\n"},
		{"node f() returns () let tel type t = A; node g() returns () let tel type u = B; node f() returns () let tel", "type t A\ntype u B\nnode f [] []\nnode g [] []\nnode f [] []\n"},
	} {
		hold(t, x[0], teller{}.program(program(t, x[0])), x[1])
	}
}
