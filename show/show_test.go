package show_test

import (
	"reflect"
	"strings"
	"testing"

	"metronome/api"
	"metronome/show"
)

var (
	boolT = api.Type{Kind: api.TBool}
	intT  = api.Type{Kind: api.TInt}
	hueT  = api.Type{Kind: api.TEnum, Name: "hue"}

	a, b, c = name("a"), name("b"), name("c")
)

func num(n int32) api.Expr    { return api.Expr{Kind: api.EInt, N: n} }
func truth(n int32) api.Expr  { return api.Expr{Kind: api.EBool, N: n} }
func ctor(s string) api.Expr  { return api.Expr{Kind: api.ECtor, Name: s} }
func name(s string) api.Expr  { return api.Expr{Kind: api.EVar, Name: s} }
func last(s string) api.Expr  { return api.Expr{Kind: api.ELast, Name: s} }
func pre(e api.Expr) api.Expr { return of(api.EPre, e) }

func of(kind byte, kids ...api.Expr) api.Expr { return api.Expr{Kind: kind, Kids: kids} }

func un(op byte, e api.Expr) api.Expr { return api.Expr{Kind: api.EUn, Op: op, Kids: []api.Expr{e}} }

func bin(op byte, a, b api.Expr) api.Expr {
	return api.Expr{Kind: api.EBin, Op: op, Kids: []api.Expr{a, b}}
}

func when(e api.Expr, ctor, name string) api.Expr {
	return api.Expr{Kind: api.EWhen, Name: name, Names: []string{ctor}, Kids: []api.Expr{e}}
}

func merge(name string, ctors string, kids ...api.Expr) api.Expr {
	return api.Expr{Kind: api.EMerge, Name: name, Names: strings.Fields(ctors), Kids: kids}
}

// hold holds a text against the one that is wanted.
func hold(t *testing.T, got, want string) {
	t.Helper()
	if got != want {
		t.Errorf("got:\n%s\nwant:\n%s", got, want)
	}
}

// P5.1: the text of each kind of expression.
func TestExpr(t *testing.T) {
	for _, x := range []struct {
		e    api.Expr
		want string
	}{
		{bin(api.Add, num(-1), name("x")), "(-1) + x"}, // the chapter's example
		{num(0), "0"},
		{num(1 << 30), "1073741824"},
		{num(-1), "-1"},
		{num(-1 << 31), "-2147483648"},
		{num(1<<31 - 1), "2147483647"},
		{truth(0), "false"},
		{truth(1), "true"},
		{ctor("Red"), "Red"},
		{name("x_1"), "x_1"},
		{last("x"), "last x"},
		{un(api.Not, a), "not a"},
		{un(api.Neg, a), "- a"},
		{of(api.EIf, a, b, c), "if a then b else c"},
		{of(api.EFby, num(0), b), "0 fby b"}, // the first kid is the first value
		{pre(a), "pre a"},
		{of(api.EArrow, a, b), "a -> b"},
		{when(a, "Red", "v"), "a when Red(v)"},
		{when(a, "true", "v"), "a when true(v)"},
		{merge("v", "C D", a, b), "(merge v (C -> a) (D -> b))"},
		{merge("v", "C", a), "(merge v (C -> a))"},
		{merge("v", ""), "(merge v)"},
	} {
		hold(t, show.Expr(x.e), x.want)
	}
}

// P5.1: the operators are those of nums, in this order.
func TestOperators(t *testing.T) {
	for i, word := range strings.Fields("+ - * / mod and or xor = <> < <= > >=") {
		hold(t, show.Expr(bin(api.Add+byte(i), a, b)), "a "+word+" b")
	}
}

// P5.1: what stands in parentheses as an operand, and that nothing does elsewhere.
func TestParentheses(t *testing.T) {
	kinds := []struct {
		e      api.Expr
		text   string
		closed bool
	}{
		{num(3), "3", true},
		{num(0), "0", true},
		{num(-3), "-3", false},
		{truth(0), "false", true},
		{truth(1), "true", true},
		{ctor("R"), "R", true},
		{c, "c", true},
		{last("c"), "last c", false},
		{un(api.Not, c), "not c", false},
		{un(api.Neg, c), "- c", false},
		{bin(api.Mul, c, c), "c * c", false},
		{of(api.EIf, c, c, c), "if c then c else c", false},
		{of(api.EFby, c, c), "c fby c", false},
		{pre(c), "pre c", false},
		{of(api.EArrow, c, c), "c -> c", false},
		{when(c, "R", "v"), "c when R(v)", false},
		{merge("v", "R", c), "(merge v (R -> c))", true},
	}
	for _, k := range kinds {
		x := k.text
		if !k.closed {
			x = "(" + x + ")"
		}
		hold(t, show.Expr(un(api.Not, k.e)), "not "+x)
		hold(t, show.Expr(bin(api.Sub, k.e, a)), x+" - a")
		hold(t, show.Expr(bin(api.Sub, a, k.e)), "a - "+x)
		hold(t, show.Expr(of(api.EFby, k.e, a)), x+" fby a")
		hold(t, show.Expr(of(api.EFby, a, k.e)), "a fby "+x)
		hold(t, show.Expr(pre(k.e)), "pre "+x)
		hold(t, show.Expr(of(api.EArrow, k.e, a)), x+" -> a")
		hold(t, show.Expr(of(api.EArrow, a, k.e)), "a -> "+x)
		hold(t, show.Expr(when(k.e, "D", "w")), x+" when D(w)")
		hold(t, show.Expr(of(api.EIf, k.e, k.e, k.e)), "if "+k.text+" then "+k.text+" else "+k.text)
		hold(t, show.Expr(merge("w", "D E", k.e, k.e)), "(merge w (D -> "+k.text+") (E -> "+k.text+"))")
		if k.e.Kind == api.EInt {
			x = "(" + k.text + ")" // a number would be one with the minus
		}
		hold(t, show.Expr(un(api.Neg, k.e)), "- "+x)
	}
	hold(t, show.Expr(bin(api.Add, a, bin(api.Add, b, bin(api.Add, a, b)))), "a + (b + (a + b))")
	hold(t, show.Expr(un(api.Neg, un(api.Neg, un(api.Not, num(1))))), "- (- (not 1))")
	hold(t, show.Expr(pre(of(api.EIf, pre(a), b, pre(num(-1))))), "pre (if pre a then b else pre (-1))")
	hold(t, show.Expr(when(when(a, "R", "v"), "D", "w")), "(a when R(v)) when D(w)")
}

// P5.1: fields that a kind does not use say nothing.
func TestFieldsNotUsed(t *testing.T) {
	odd := bin(api.Add, a, b)
	odd.N, odd.Name, odd.Names, odd.At = -5, "no", []string{"No"}, api.Pos{Line: 3, Col: 4}
	hold(t, show.Expr(odd), "a + b")
	odd = pre(num(1))
	odd.Op = api.Neg
	hold(t, show.Expr(odd), "pre 1")
}

// P5.2: types and variables.
func TestTypeAndVar(t *testing.T) {
	hold(t, show.Type(boolT), "bool")
	hold(t, show.Type(intT), "int")
	hold(t, show.Type(hueT), "hue")
	hold(t, show.Type(api.Type{Kind: api.TInt, Name: "no"}), "int")
	on := []api.On{{Ctor: "C", Var: "v"}, {Ctor: "true", Var: "w"}}
	for _, x := range []struct {
		v    api.Var
		want string
	}{
		{api.Var{Name: "x", T: intT}, "x : int"},
		{api.Var{Name: "x", T: boolT, Clock: on[:1]}, "x : bool when C(v)"},
		{api.Var{Name: "x", T: hueT, Clock: on}, "x : hue when C(v) when true(w)"},
		{api.Var{Name: "x", T: intT, First: num(3)}, "x : int"},
		{api.Var{Name: "x", T: intT, Last: true, First: num(3)}, "last x : int = 3"},
		{api.Var{Name: "x", T: intT, Last: true, First: num(-3)}, "last x : int = -3"},
		{api.Var{Name: "x", T: hueT, Clock: on, Last: true, First: ctor("R")}, "last x : hue when C(v) when true(w) = R"},
		{api.Var{Name: "x", T: boolT, Last: true, First: bin(api.Or, a, b)}, "last x : bool = a or b"},
	} {
		hold(t, show.Var(x.v), x.want)
	}
}

func v(name string, t api.Type) api.Var { return api.Var{Name: name, T: t} }

func def(name string, e api.Expr) api.Equation {
	return api.Equation{Kind: api.QDef, Lhs: []string{name}, E: e}
}

func eqs(l ...api.Equation) api.Block { return api.Block{Eqs: l} }

// holdEq holds the lines of an equation in a node against those that are wanted.
func holdEq(t *testing.T, q api.Equation, want ...string) {
	t.Helper()
	body := ""
	for _, s := range want {
		body += "  " + s + "\n"
	}
	hold(t, show.Node(api.Node{Name: "f", B: eqs(q)}), "node f() returns ()\nlet\n"+body+"tel\n")
}

// P5.2: definitions and calls.
func TestDefinitionsAndCalls(t *testing.T) {
	holdEq(t, def("x", of(api.EIf, a, b, num(-2))), "x = if a then b else -2;")
	call := api.Equation{Kind: api.QCall, Name: "g", E: bin(api.Or, a, b)}
	holdEq(t, call, "() = g();")
	call.Lhs, call.Args = []string{"x"}, []api.Expr{num(-1)}
	holdEq(t, call, "x = g(-1);")
	call.Lhs, call.Args = []string{"x", "y", "z"}, []api.Expr{a, bin(api.Add, a, b), last("c")}
	holdEq(t, call, "(x, y, z) = g(a, a + b, last c);")
	call.Has = true
	holdEq(t, call, "(x, y, z) = g(a, a + b, last c) every a or b;")
	call.Lhs, call.Args = call.Lhs[:1], nil
	holdEq(t, call, "x = g() every a or b;")
}

// P5.2: switches, automata, resets and blocks.
func TestArms(t *testing.T) {
	inner := api.Block{Vars: []api.Var{v("p", intT), v("q", boolT)}, Eqs: []api.Equation{def("x", a), def("y", b)}}
	to := []api.Trans{{E: a, To: "S"}, {E: bin(api.And, a, b), To: "T", Resume: true}}
	arms := []api.Arm{{Name: "S", B: inner, Unless: to, Until: to[1:]}, {Name: "T", Until: to[:1]}}
	lines := []string{"| S", "  var p : int; q : bool;", "  do", "    x = a;", "    y = b;"}
	sw := append([]string{"switch not a"}, lines...)
	holdEq(t, api.Equation{Kind: api.QSwitch, E: un(api.Not, a), Arms: arms}, append(sw, "| T", "  do", "end;")...)
	auto := append([]string{"automaton"}, lines...)
	auto = append(auto, "  unless a then S", "  unless a and b continue T", "  until a and b continue T")
	holdEq(t, api.Equation{Kind: api.QAuto, Arms: arms}, append(auto, "| T", "  do", "  until a then S", "end;")...)
	holdEq(t, api.Equation{Kind: api.QReset, E: a, Arms: arms[:1]}, "reset", "  var p : int; q : bool;", "  do", "    x = a;", "    y = b;", "every a;")
	holdEq(t, api.Equation{Kind: api.QSwitch, E: a}, "switch a", "end;")
	holdEq(t, api.Equation{Kind: api.QAuto}, "automaton", "end;")
	holdEq(t, api.Equation{Kind: api.QReset, E: a, Arms: []api.Arm{{}}}, "reset", "  do", "every a;")
	nested := api.Equation{Kind: api.QReset, E: b, Arms: []api.Arm{{B: eqs(api.Equation{Kind: api.QAuto, Arms: arms[1:]}, def("z", c))}}}
	holdEq(t, nested, "reset", "  do", "    automaton", "    | T", "      do", "      until a then S", "    end;", "    z = c;", "every b;")
}

// P5.2: nodes.
func TestNode(t *testing.T) {
	hold(t, show.Node(api.Node{}), "node () returns ()\nlet\ntel\n")
	n := api.Node{Name: "f", Ins: []api.Var{v("a", boolT)}, Outs: []api.Var{v("x", intT), v("y", hueT)}}
	hold(t, show.Node(n), "node f(a : bool) returns (x : int; y : hue)\nlet\ntel\n")
	n.Ins = append(n.Ins, api.Var{Name: "b", T: intT, Clock: []api.On{{Ctor: "true", Var: "a"}}})
	n.B.Vars = []api.Var{{Name: "m", T: intT, Last: true, First: num(0)}, v("k", intT)}
	n.B.Eqs = []api.Equation{def("x", num(1)), def("y", ctor("R"))}
	hold(t, show.Node(n), `node f(a : bool; b : int when true(a)) returns (x : int; y : hue)
var last m : int = 0; k : int;
let
  x = 1;
  y = R;
tel
`)
}

// lamp is a program with something of each kind.
func lamp() api.Program {
	dark := api.Arm{Name: "Dark", B: eqs(def("x", num(0))), Unless: []api.Trans{{E: a, To: "Lit"}}}
	lit := api.Arm{Name: "Lit", Until: []api.Trans{{E: bin(api.Gt, name("n"), num(9)), To: "Dark", Resume: true}}}
	lit.B.Vars = []api.Var{v("n", intT)}
	lit.B.Eqs = []api.Equation{
		{Kind: api.QCall, Lhs: []string{"n"}, Name: "count", Args: []api.Expr{num(-1)}, Has: true, E: a},
		{Kind: api.QSwitch, E: ctor("Off"), Arms: []api.Arm{{Name: "On", B: eqs(def("x", name("n")))}, {Name: "Off", B: eqs(def("x", last("x")))}}},
	}
	counter := api.Equation{Kind: api.QReset, E: name("r"), Arms: []api.Arm{{B: eqs(def("x", of(api.EFby, num(-1), bin(api.Add, name("x"), name("d")))))}}}
	return api.Program{
		Enums: []api.Enum{{Name: "state", Ctors: []string{"On", "Off"}}, {Name: "unit", Ctors: []string{"U"}}},
		Nodes: []api.Node{
			{Name: "count", Ins: []api.Var{v("d", intT)}, Outs: []api.Var{v("x", intT)}, B: api.Block{Vars: []api.Var{v("r", boolT)}, Eqs: []api.Equation{def("r", truth(0)), counter}}},
			{Name: "lamp", Ins: []api.Var{v("a", boolT)}, Outs: []api.Var{{Name: "x", T: intT, Last: true, First: num(0)}}, B: eqs(api.Equation{Kind: api.QAuto, Arms: []api.Arm{dark, lit}})},
		},
	}
}

// P5.2: programs: the types come first.
func TestProgram(t *testing.T) {
	hold(t, show.Program(api.Program{}), "")
	hold(t, show.Program(api.Program{Enums: []api.Enum{}, Nodes: []api.Node{}}), "")
	p := lamp()
	hold(t, show.Program(p), `type state = On | Off;
type unit = U;
node count(d : int) returns (x : int)
var r : bool;
let
  r = false;
  reset
    do
      x = (-1) fby (x + d);
  every r;
tel
node lamp(a : bool) returns (last x : int = 0)
let
  automaton
  | Dark
    do
      x = 0;
    unless a then Lit
  | Lit
    var n : int;
    do
      n = count(-1) every a;
      switch Off
      | On
        do
          x = n;
      | Off
        do
          x = last x;
      end;
    until n > 9 continue Dark
  end;
tel
`)
	hold(t, show.Program(p), "type state = On | Off;\ntype unit = U;\n"+show.Node(p.Nodes[0])+show.Node(p.Nodes[1]))
	if !reflect.DeepEqual(p, lamp()) {
		t.Error("the program has changed")
	}
}

// P1: expressions and equations that no program has are no reason to stop either.
func TestOddOnes(t *testing.T) {
	for kind := range byte(20) {
		for op := range byte(20) {
			for _, e := range []api.Expr{{Kind: kind, Op: op}, {Kind: kind, Op: op, Kids: []api.Expr{a}}, {Kind: kind, Op: op, Kids: make([]api.Expr, 5)}} {
				show.Expr(e)
			}
		}
		show.Type(api.Type{Kind: kind})
		show.Var(api.Var{Last: true, T: api.Type{Kind: kind}})
		for _, arms := range [][]api.Arm{nil, {{}}, {{}, {}}} {
			show.Node(api.Node{B: eqs(api.Equation{Kind: kind, Arms: arms, Has: true})})
		}
	}
	deep, want := a, strings.Builder{}
	for range 50000 {
		deep = pre(deep)
		want.WriteString("pre (")
	}
	text := show.Expr(deep)
	if text != strings.TrimSuffix(want.String(), "(")+"a"+strings.Repeat(")", 49999) {
		t.Error("a deep expression")
	}
}
