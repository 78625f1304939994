package parse_test

import (
	"strconv"
	"strings"
	"testing"

	"metronome/api"
	"metronome/parse"
)

// nest puts a text into n of what stands about the blank of around.
func nest(n int, around, text string) string {
	ahead, behind, _ := strings.Cut(around, "_")
	return strings.Repeat(ahead, n) + text + strings.Repeat(behind, n)
}

// tokens are words of all kinds: what is too deep is so whatever its first token is.
var tokens = strings.Fields("a F 1 2147483648 ( ) ; , | = -> do var let tel end every then true bool not pre - last if merge fby")

// valid holds the texts to no error.
func valid[T any](t *testing.T, parse func(string) (T, error), texts ...string) {
	t.Helper()
	for _, s := range texts {
		if _, err := parse(s); err != nil {
			t.Errorf("%.300q: %v", s, err)
		}
	}
}

func inNode(eqs string) string { return "node f() returns () let " + eqs + " tel" }

// opening nest an expression by one more level each; in later another expression of that level comes before it.
var (
	opening = []string{"(_)", "if _ then 1 else 2", "1 -> _", "1 fby _", "not _", "- _", "pre _", "merge v (C -> _)"}
	later   = []string{"if 1 then _ else 2", "if 1 then 2 else _", "merge v (C -> 1) (D -> _)"}
)

// P6.2: no more than MaxDepth expressions and operators of one operand may be open.
func TestDeepExpressions(t *testing.T) {
	for _, around := range opening {
		ahead, _, _ := strings.Cut(around, "_")
		valid(t, parse.Expr, nest(api.MaxDepth-1, around, "a"))
		wrong(t, parse.Expr, api.Limit, nest(api.MaxDepth, around, "@a"), nest(api.MaxDepth, around, "@"+nest(9, around, "a")), strings.Repeat(ahead, api.MaxDepth)+"@")
		wrong(t, parse.Expr, api.Syntax, nest(api.MaxDepth-1, around, "@)"), strings.Repeat(ahead, api.MaxDepth-1)+"@")
	}
	for _, around := range later {
		valid(t, parse.Expr, nest(api.MaxDepth-1, around, "a"))
		wrong(t, parse.Expr, api.Limit, nest(api.MaxDepth-1, around, "(@a)"), nest(api.MaxDepth-1, around, "not @a"), nest(api.MaxDepth-1, around, strings.NewReplacer("1", "@1", "_", "a").Replace(around)))
	}
}

// P6.2: what begins an expression, or stands behind an operator of one operand, that is too deep is so whatever it is.
func TestDeepTokensOfExpressions(t *testing.T) {
	for _, around := range opening {
		ahead, _, _ := strings.Cut(around, "_")
		for _, word := range tokens {
			if around != "- _" || word != "1" && word != "2147483648" {
				wrong(t, parse.Expr, api.Limit, nest(api.MaxDepth, around, "@"+word), strings.Repeat(ahead, api.MaxDepth)+"@"+word)
			}
		}
	}
}

// P6.2: the levels of all sorts are counted together, and those that are closed no more.
func TestDeepMixtures(t *testing.T) {
	for _, outer := range []string{"(_)", "if _ then 1 else 2", "1 -> _", "1 fby _", "merge v (C -> _)"} {
		for _, inner := range opening {
			valid(t, parse.Expr, nest(30, outer, nest(33, inner, "a")))
			wrong(t, parse.Expr, api.Limit, nest(30, outer, nest(34, inner, "@a")), nest(31, outer, nest(33, inner, "@a")))
		}
	}
	const two = "not (_)"
	valid(t, parse.Expr, nest(31, two, "a"), nest(31, two, "not a"))
	wrong(t, parse.Expr, api.Limit, nest(31, two, "not (@a)"), nest(32, two, "@a"))
	deep := nest(62, "(_)", "a")
	valid(t, parse.Expr, "not a + "+deep+" * not not a", "if "+deep+" then "+deep+" else "+deep, "merge v (C -> "+deep+") (D -> "+deep+")")
	valid(t, parse.Program, inNode("x = f("+deep+", "+deep+") every "+deep+"; y = "+deep+"; switch "+deep+" | A do reset do z = "+nest(61, "(_)", "a")+"; every a; end;"))
}

// P6.2: the - of a negative number opens nothing.
func TestDeepNegativeNumbers(t *testing.T) {
	valid(t, parse.Expr, nest(api.MaxDepth, "- _", "1"), nest(api.MaxDepth, "- _", "2147483648"), nest(api.MaxDepth-1, "(_)", "-1"), nest(api.MaxDepth-1, "not _", "-1"))
	wrong(t, parse.Expr, api.Limit, nest(api.MaxDepth, "- _", "@- 1"), nest(api.MaxDepth, "- _", "@(1)"), nest(api.MaxDepth-1, "(_)", "-@x"), nest(api.MaxDepth-1, "not _", "-@(1)"))
}

// blocks nest the equations of a block.
var blocks = []string{"switch c | A do _ end; ", "automaton | S do _ end; ", "reset do _ every r; ", "switch c | true do end; switch c | A do | B var y: int; do _ | C do end; ", "automaton | S do | T do x = a; _ unless a then S until a then S end; "}

// P6.2: no more than MaxDepth blocks and expressions may be open; that of a node is none of them.
func TestDeepBlocks(t *testing.T) {
	for _, around := range blocks {
		most := func(eqs string) string { return inNode(nest(api.MaxDepth-1, around, eqs)) }
		valid(t, parse.Program, most("x = a;"), most("switch c | A do end;"), most("automaton | S do unless a then S until -1 then S end;"), most("reset do every a;"), most("x = f(a, b) every a;"))
		wrong(t, parse.Program, api.Limit,
			most("x = (@a);"), most("x = not @a;"), most("x = if @a then b else c;"), most("x = f((@a))"), most("x = f(a) every -@a"),
			most("switch not @a"), most("switch c | A do x = @a; end;"), most("automaton | S do reset @do every a; end;"), most("automaton | S do until (@a) then S end;"), most("reset do every -@a;"),
		)
	}
	for _, around := range blocks[:3] {
		full := func(eqs string) string { return inNode(nest(api.MaxDepth, around, eqs)) }
		valid(t, parse.Program, full(""), full("x = f();"), full("() = f(); (x, y) = f();"))
		wrong(t, parse.Program, api.Limit,
			full("x = @a;"), full("x = f(@a);"), full("x = f() every @a;"), full("switch @c | A do end;"), full("automaton | S @do end;"), full("reset @do every r;"), full("reset @var x: int; do every r;"))
		wrong(t, parse.Program, api.Syntax, full("@;"), full("automaton @c"), full("x = f() @1"))
	}
	mixed := func(n int, eqs string) string {
		return nest(20, blocks[0], nest(20, blocks[1], nest(n, blocks[2], eqs)))
	}
	valid(t, parse.Program, inNode(mixed(23, "x = a;")), inNode(mixed(3, "x = "+nest(20, "(_)", "a")+";")))
	wrong(t, parse.Program, api.Limit, inNode(mixed(24, "x = @a;")), inNode(mixed(3, "x = "+nest(21, "(_)", "@a")+";")))
}

// P6.2: where too many would be open, what is neither one name nor a call is Syntax all the same.
func TestDeepLeftSides(t *testing.T) {
	for _, word := range tokens {
		wrong(t, parse.Program, api.Syntax, inNode(nest(api.MaxDepth, blocks[0], "(x, y) = @"+word+";")), inNode(nest(api.MaxDepth, blocks[2], "() = @"+word+" ;")))
		wrong(t, parse.Program, api.Limit, inNode(nest(api.MaxDepth, blocks[0], "x = @"+word+";")), inNode(nest(api.MaxDepth, blocks[2], "(x) = @"+word+" ;")))
	}
}

// P6.2: what begins a block, or an expression of an equation, that is too deep is so whatever it is.
func TestDeepTokensOfEquations(t *testing.T) {
	for _, word := range tokens {
		for _, s := range []string{"reset @", "automaton | S @", "switch @", "x = f() every @", "x = f(@"} {
			if s != "x = f(@" || word != ")" {
				wrong(t, parse.Program, api.Limit, inNode(nest(api.MaxDepth, blocks[0], s+word)))
			}
		}
		wrong(t, parse.Program, api.Limit, inNode(nest(api.MaxDepth-1, blocks[0], "switch c | A do switch @"+word)), inNode(nest(api.MaxDepth-1, blocks[0], "switch c | A do reset @"+word)))
	}
}

// P6.2: the levels hold for first values too, though these are no expr themselves.
func TestDeepFirstValues(t *testing.T) {
	in := func(n int, first string) string {
		return inNode(nest(n, "reset do _ every r;", "reset var last x: int = "+first+"; do every r;"))
	}
	valid(t, parse.Program, in(api.MaxDepth-1, "1"), in(api.MaxDepth-1, "-1"), in(api.MaxDepth-2, "(1)"), in(api.MaxDepth-2, "(-1)"))
	wrong(t, parse.Program, api.Limit, in(api.MaxDepth-1, "(@1)"), in(api.MaxDepth-1, "(@)"), in(api.MaxDepth-2, "((@-1))"))
	valid(t, parse.Program, "node f(last x: int = "+nest(api.MaxDepth, "(_)", "1")+") returns () let tel")
	wrong(t, parse.Program, api.Limit, "node f(last x: int = "+nest(api.MaxDepth+1, "(_)", "@1")+") returns () let tel")
}

// many is n texts with numbers in the place of their #, beginning with 0.
func many(n int, text, between string) string {
	l := make([]string, n)
	for i := range l {
		l[i] = strings.ReplaceAll(text, "#", strconv.Itoa(i))
	}
	return strings.Join(l, between)
}

// P6.2: no more than MaxNodes nodes, of however many types.
func TestManyNodes(t *testing.T) {
	nodes := many(api.MaxNodes, "node f#() returns () let tel", " ")
	types := many(2*api.MaxNodes, "type t# = A;", " ")
	valid(t, parse.Program, nodes, nodes+" "+types, types+" "+nodes, types)
	for _, behind := range []string{"", " f() returns () let tel", " node", " 1", " ;"} {
		wrong(t, parse.Program, api.Limit, nodes+" @node"+behind, nodes+" "+types+" @node"+behind)
	}
	wrong(t, parse.Program, api.Syntax, nodes+" @f", nodes+"@;", nodes+" type @node", nodes[:len(nodes)-3]+"@node")
}

// P6.2: no more than MaxCtors constructors, whatever the token is that would be one more.
func TestManyConstructors(t *testing.T) {
	ctors := "type t = " + many(api.MaxCtors, "C#", " | ")
	valid(t, parse.Program, ctors+";", many(3, ctors+";", " "))
	wrong(t, parse.Program, api.Limit, ctors+" | @", ctors+"; "+ctors+" | @D;")
	for _, word := range append(tokens, "D", "node", "type") {
		wrong(t, parse.Program, api.Limit, ctors+" | @"+word)
	}
	wrong(t, parse.Program, api.Syntax, ctors+" @D", ctors+"@", "type t = "+many(api.MaxCtors-1, "C#", " | ")+" | @;")
}

// P6.2: no more than MaxCtors arms of a switch or states of an automaton.
func TestManyArms(t *testing.T) {
	for _, begin := range []string{"switch c ", "automaton "} {
		arms := begin + many(api.MaxCtors, "| C# do", " ")
		valid(t, parse.Program, inNode(arms+" end;"), inNode(arms+" "+arms+" end; end;"), inNode(arms+" end; "+arms+" end;"))
		wrongEq(t, api.Limit, arms+" @| D do end;", arms+" @|", arms+" @| | |", arms+" @| 1", arms+" "+arms+" end; @| D do end;")
		wrongEq(t, api.Syntax, arms+" @do", arms+" @D do end;", arms+" @;")
	}
	wrongEq(t, api.Limit, "automaton "+many(api.MaxCtors, "| C# do until a then C0", " ")+" @| D do end;")
}

// P6.2: no more than MaxCtors parts of a merge.
func TestManyParts(t *testing.T) {
	parts := "merge v " + many(api.MaxCtors, "(C# -> #)", " ")
	valid(t, parse.Expr, parts, parts+" when C(v)", "merge v (C -> "+parts+") (D -> "+parts+")")
	wrong(t, parse.Expr, api.Limit, parts+" @(D -> 1)", parts+" @(", parts+" @()", parts+" @(1 2", "1 + "+parts+" @(D -> 1)")
	wrong(t, parse.Expr, api.Syntax, parts+" @D", parts+" @)", parts+" @1")
}

// P6.2: 2147483648 is a number only behind a unary -.
func TestTheGreatestNumber(t *testing.T) {
	wrong(t, parse.Expr, api.Limit, "@2147483648", "@002147483648", "1 - @2147483648", "x -@2147483648", "1 + @2147483648", "-(@2147483648)", "not @2147483648", "pre @2147483648", "a = @2147483648", "if @2147483648", "0 fby @2147483648", "a -> @2147483648", "merge v (C -> @2147483648", "(@2147483648) fby x", "@2147483648 fby x", "@2147483648 2", "- - 1 - @2147483648")
	wrong(t, parse.Program, api.Limit, "node f(last a: int = @2147483648) returns", "node f(last a: int = (@2147483648)) returns", inNode("x = @2147483648;"), inNode("x = f(@2147483648);"))
	wrong(t, parse.Expr, api.Syntax, "x @2147483648", "1 @2147483648", "x when C(@2147483648", "last @2147483648", "-1 @2147483648", "- 2147483648 @2147483648")
	wrong(t, parse.Program, api.Syntax, "@2147483648", inNode("@2147483648 = 1;"), inNode("(@2147483648) = 1;"), inNode("x @2147483648"), "node f(a: @2147483648)")
	valid(t, parse.Expr, "-2147483648", "1 - -2147483648", "- - 2147483648", "not - 2147483648", "(-2147483648) fby -2147483648")
}

// P6.2: an expression as deep as a tree, seen when it ends.
func TestDeepTrees(t *testing.T) {
	sum := func(n int) string { return "1" + strings.Repeat(" + 1", n-1) }
	most, more := sum(api.MaxDepth), sum(api.MaxDepth+1)
	valid(t, parse.Expr, most, "("+most+")", "x"+strings.Repeat(" when C(v)", api.MaxDepth-1), "if "+sum(63)+" then "+sum(63)+" else "+sum(63), "("+sum(63)+") -> "+sum(63), "1 + ("+sum(63)+")", "1 - 1"+strings.Repeat(" * 1", 62), "not ("+sum(63)+")", "merge v (C -> "+sum(63)+")")
	wrong(t, parse.Expr, api.Limit,
		"@"+more, "@"+sum(1000), "(@"+more+")", "((@"+more+"))", "@(1) + "+most, "@("+most+") + 1", "@x"+strings.Repeat(" when C(v)", api.MaxDepth), "@if "+most+" then 1 else 2", "@if 1 then 2 else "+most, "if @"+more+" then 1 else 2", "@"+most+" -> 1", "@1 -> "+most, "1 -> @"+more, "@1 fby "+most, "1 + (@"+more+")", "@1 + ("+most+")", "@not ("+most+")", "@1 + 1"+strings.Repeat(" * 1", 63), "@merge v (C -> "+most+")", "merge v (C -> @"+more+")",
		// what stands behind its end comes later
		"@"+more+" )", "@"+more+" 1", "(@"+more+" ;", "@"+more+" then", "if @"+more+" else",
	)
	wrong(t, parse.Expr, api.Syntax, more+" + @)", more+" @fby 1", more+" -> @", more+" when @c(v)", "("+most+" + @", "@)"+more)
	wrong(t, parse.Program, api.Limit, inNode("x = @"+more+";"), inNode("x = f(1, @"+more+");"), inNode("x = f() every @"+more+";"), inNode("switch @"+more), inNode("automaton | S do unless @"+more+" then S end;"), inNode("automaton | S do until @"+more+" )"), inNode("reset do every @"+more))
	wrong(t, parse.Program, api.Syntax, inNode("(x, y) = @"+more), inNode("x = f() @+ "+more))
}
