package parse_test

import (
	"reflect"
	"strings"
	"testing"

	"metronome/api"
	"metronome/lex"
	"metronome/parse"
)

// P6.2: the error of lex.Words comes first, wherever it stands.
func TestErrorsOfWords(t *testing.T) {
	for _, s := range []string{"?", ") 1x", "x = _a", "node node 2147483649", "x " + strings.Repeat("b", api.MaxName+1), strings.Repeat(" ", api.MaxText+1), "\r"} {
		_, want := lex.Words(s)
		p, err := parse.Program(s)
		if want == nil || !reflect.DeepEqual(err, want) || !reflect.DeepEqual(p, api.Program{}) {
			t.Errorf("Program(%.50q) = %v, %v; want %v", s, p, err, want)
		}
		e, err := parse.Expr(s)
		if !reflect.DeepEqual(err, want) || !reflect.DeepEqual(e, api.Expr{}) {
			t.Errorf("Expr(%.50q) = %v, %v; want %v", s, e, err, want)
		}
	}
}

// P6.2: Syntax at the first token that can't stand there.
func TestWrongExpressions(t *testing.T) {
	wrong(t, parse.Expr, api.Syntax,
		"@", " \n @", "x @y", "x @;", "(x@", "(x @;)", "@)", "(@)", "1 @2", "1 @2147483648", "x @(a)", "C @(a)",
		"1 + @", "1 + @* 2", "@* 2", "@+ 2", "@= 2", "1 + @if a then b else c", "not @if a then b else c", "@-> a", "a -> @", "a -> @-> b",
		"not @", "- @", "pre @", "pre @fby 1", "- @+ 1", "last @", "last @C", "last @1", "last @(x)", "last @last x",
		"if @", "if a @", "if a @else b", "if a then @", "if a then b @", "if a then b @then c", "if a then b else @", "@then", "a @then b",
		"a when @", "a when @x(v)", "a when C @", "a when C @v", "a when C(@", "a when C(@C)", "a when C(@)", "a when C(v@", "a when C(v @w)", "a when @1(v)", "a when @bool(v)", "a when true(@true)",
		"(if a then b else c) when C @", "if a then b else c when @", "not a when @",
		"merge @", "merge v @", "merge @C", "merge @(C -> a)", "merge v (@", "merge v (@x -> a)", "merge v (C @a)", "merge v (C -> @", "merge v (C -> a@", "merge v (C -> a) (@", "merge v (C -> a) @a", "merge v (C -> a) when @", "merge v (C -> @)",
		"a = b @= c", "a < b + c @<= d", "a and b = c * d @> e", "a = not b @<> c", "(a = b @= c)", "a = b @= c -> d",
		"@let", "@every", "a @every b", "a @, b", "@,", "@|", "a @| b", "@:", "@int", "@node f",
	)
}

// P6.2: at the word fby, if what stands left of it is no constant.
func TestFirstValuesOfFby(t *testing.T) {
	wrong(t, parse.Expr, api.Syntax,
		"x @fby 1", "last x @fby 1", "(x) @fby 1", "- x @fby 1", "-(1) @fby x", "- -1 @fby x", "not true @fby x", "pre 1 @fby x", "1 + 2 @fby x", "1 when C(v) @fby x", "(0 fby 1) @fby x", "(if a then b else c) @fby x",
		"merge v (C -> 1) @fby x", "x @fby", "x @fby )", "0 fby x @fby 1", "1 -> x @fby 2", "(x @fby 1", "if a then x @fby 1 else b",
	)
	wrong(t, parse.Expr, api.Syntax, "1 fby @", "1 fby @fby 2", "(1) fby @)", "@fby 1")
}

// P6.2: Syntax at the first token that can't stand there, in programs.
func TestWrongPrograms(t *testing.T) {
	wrong(t, parse.Program, api.Syntax,
		"@x", "@;", "@let", "@1", "type @", "type @T = A;", "type t @A", "type t = @", "type t = @a", "type t = @;", "type t = A @", "type t = A @, B", "type t = A | @", "type t = A | @b", "type t = A | @| B", "type t = @true;", "type @bool = A;", "type t = A; @A",
		"node @", "node @F", "node f @", "node f @returns", "node f(@", "node f(@;", "node f(@C: int)", "node f(a @int)", "node f(a: @)", "node f(a: @C)", "node f(a: @1)", "node f(a: int @,", "node f(a: int @b: int)", "node f(a: int; @)", "node f(a @, b: int)",
		"node f() @let", "node f() returns @x", "node f() returns () @", "node f() returns () @tel", "node f() returns () let @", "node f() returns () let tel @;", "node f() returns () @do", "node f() returns () let tel @tel",
		"node f() returns () @;", "node f() returns () var @let", "node f() returns () var x @, y: int;", "node f() returns () var x: int @let", "node f() returns () var x: int; @;", "node f() returns () var x: int; @var", "node f() returns () var last @C",
		"node f(a: int when @a) returns", "node f(a: int when C @) returns", "node f(a: int when C(b) @C) returns",
		"node f(a: int @= 1) returns", "node f(last a: int@) returns", "node f(last a: int @; b: int) returns", "node f(last a: int when C(v) @) returns", "node f(last a: int = @) returns", "node f(last a: int = 1 @+ 2)", "node f(last @last a: int = 1)",
		"node f() returns () let tel node@",
	)
}

// P6.2: a first value that is no constant, at its place; behind a constant the next token is wrong.
func TestFirstValuesOfVariables(t *testing.T) {
	for _, x := range []string{"@x", "@last x", "@not true", "@- x", "@-(1)", "@pre 1", "(@x)", "((@1 + 2))", "(@-x + 2)", "@1 when C(v)", "(@1) when C(v)", "@-1 when C(v)", "@merge v (C -> 1)", "(@0 fby x)", "(@if a then b else c)", "(@(a) + b)", "@x)", "@x + 1", "1 @+ 2", "-1 @- 1", "(1) @-> 2", "1 @= 2", "1 @fby 2", "@)", "@if a then b else c", "@fby", "1 @2", "(1 @2)", "(@)"} {
		wrong(t, parse.Program, api.Syntax, "node f(last a: int = "+x+"; b: int) returns () let tel", "node f(last a: int = "+x+") returns () let tel", "node f() returns () var last a: int when D(c) = "+x+"; let tel")
	}
	// An error within such a value is found before its end.
	wrong(t, parse.Program, api.Syntax, "node f(last a: int = not @)", "node f(last a: int = (x + @)", "node f(last a: int = x when @x", "node f(last a: int = merge v @)")
}

// P6.2: Syntax at the first token that can't stand there, in equations.
func TestWrongEquations(t *testing.T) {
	wrongEq(t, api.Syntax,
		"@;", "@X = 1;", "@1 = 1;", "x @;", "x @1;", "x @, y = f();", "x = @;", "x = 1 @y = 2;", "x = 1; @;", "x = 1 = 2 @= 3;",
		"(@1) = 1;", "(x @y) = 1;", "(x, @) = f();", "(@, x) = f();", "(x@;", "(x) @;", "(x, y) @f();", "(@(x)) = 1;",
		"x = f(@;", "x = f(a @b);", "x = f(a, @);", "x = f(@, a);", "x = f(a@;", "x = f() @+ 1;", "x = f() every @;", "x = f() every r @every r;", "x = f @every r;", "x = 1 @every r;", "x = (f) @();", "x = F @();", "x = g + f @();", "x = f() @f();", "x = 1 + @;",
		"@last x = 1;", "@if a then b else c;", "@unless", "@do",
	)
}

// P6.2: of a left side with no name or several, what is no call is wrong at its first token.
func TestLeftSides(t *testing.T) {
	wrongEq(t, api.Syntax,
		"(x, y) = @1;", "() = @1;", "(x, y) = @f;", "(x, y) = @f + 1;", "(x, y) = @(f());", "() = @F();", "(x, y) = @;", "(x, y) = @if a then b else c;", "(x, y, z) = @last f();", "() = @(f)();", "() = @2147483648;",
	)
}

// P6.2: Syntax at the first token that can't stand there, in switches, automata and resets.
func TestWrongArms(t *testing.T) {
	wrongEq(t, api.Syntax,
		"switch @;", "switch @| A do end;", "switch c @end;", "switch c @do", "switch c | @a do end;", "switch c | @do", "switch c | A @end;", "switch c | A @| B do end;", "switch c | A do @;", "switch c | A do @do end;", "switch c | A do x = 1 @end;", "switch c | A do end @x = 1;", "switch c | A do end; @end;", "switch c | A @let end;", "switch c | A do @let",
		"switch c | A var @do end;", "switch c | A var x: int; @end;", "switch c | A do @unless a then A end;", "switch c | A do @until a then A end;", "switch c | A do | @end;", "switch c | @1 do end;", "switch c | A @(x) do end;",
		"automaton @end;", "automaton @S do end;", "automaton | @s do end;", "automaton | @true do end;", "automaton | S do @every a;", "automaton | S do unless @then S end;", "automaton | S do unless a @end;", "automaton | S do unless a then @s end;", "automaton | S do unless a continue @true end;", "automaton | S do until a then S @unless a then S end;",
		"automaton | S do unless a then S @; end;", "automaton | S do until a then S @x = 1; end;", "automaton | S do unless a @S end;", "automaton @c | S do end;", "automaton | S do unless a then S @continue S end;", "automaton | S do unless a then S until @end;", "automaton | S @unless a then S do end;",
		"reset @every r;", "reset @x = 1; every r;", "reset do @;", "reset do @end;", "reset do every @;", "reset do every r @do", "reset do x = 1 @every r;", "reset @| A do every r;", "reset do @| A do every r;", "reset do @until a then S every r;",
	)
}

// P6.2: where a program stops too early, its end is wrong.
func TestTextsThatEndEarly(t *testing.T) {
	const text = "type t = A | B ; node f ( last a : int when true ( b ) = - 1 ; b : bool ) returns ( x : t ) var c : int ; let ( x ) = f ( a , b ) every - 1 -> ( b ) ; reset var d : int ; do every if a then b else c ; switch c | A do automaton | S do unless merge a ( A -> last b ) ( B -> 0 fby not b when A ( c ) ) then S until b continue S end ; | B do end ; tel"
	program(t, text)
	l := strings.Fields(text)
	for i := range l {
		s := strings.Join(l[:i], " ")
		if i != 0 && s != "type t = A | B ;" {
			wrong(t, parse.Program, api.Syntax, s+"@", s+" @", s+"\n@")
		}
	}
}
