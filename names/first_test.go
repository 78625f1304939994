package names_test

import (
	"reflect"
	"strings"
	"testing"

	"metronome/api"
	"metronome/faults"
	"metronome/names"
	"metronome/tree"
)

// P7.1, 3: of first values, those that a text can have.
func TestFirstValues(t *testing.T) {
	wrong(t, api.Name,
		"node f(last a: int = @A) returns () let tel",
		"type t = A; node f(last a: int = A; last b: t = @B) returns () let tel",
		"node f() returns (last a: int = @A; a: int) let tel",
		"node f() returns () var a: int; last b: int when Nothing(b) = @A; let tel",
	)
	wrong(t, api.Name, within(body, "reset var last w: int = @Nothing; do every c;")...)
	right(t, within(body, "x = 1; reset var last w: int = C; do w = 2; every c;")...)
	p := program(t, "node f(a: int) returns () let tel")
	p.Nodes[0].Ins[0].First = tree.Ctor("Nothing")
	holdError(t, "the first value of a variable that has no last value", p, api.OK, api.Pos{})
}

// withFirsts has eight first values.
const withFirsts = `type t = A;
node f(last i: int = 0; j: int; last k: int = 0) returns (last o: int = 0; p: int; last q: int = 0)
var last r: int = 0; s: int; last u: int = 0;
let
  reset var last v: int = 0; w: int; last y: int = 0; do v = 0; w = 0; y = 0; every true;
  o = 0; p = 0; q = 0; r = 0; s = 0; u = 0;
tel`

// holdFirst puts an expression at the place of each first value of withFirsts in turn: which are right (+), and which not (-)?
func holdFirst(t *testing.T, e api.Expr, want string) {
	t.Helper()
	e.At = api.Pos{Line: 99, Col: 9}
	got := ""
	for i := range len(want) {
		p := program(t, withFirsts)
		*firsts(&p.Nodes[0])[i] = e
		err := names.Check(p)
		switch {
		case err == nil:
			got += "+"
		case reflect.DeepEqual(err, faults.New(api.Name, e.At)):
			got += "-"
		default:
			t.Errorf("%v", err)
		}
	}
	if got != want {
		t.Errorf("%v: right %s, want %s", e, got, want)
	}
}

// firsts are the first values of the variables of a node, and of the block of its first equation.
func firsts(n *api.Node) []*api.Expr {
	var l []*api.Expr
	for _, vars := range [][]api.Var{n.Ins, n.Outs, n.B.Vars, n.B.Eqs[0].Arms[0].B.Vars} {
		for i := range vars {
			if vars[i].Last {
				l = append(l, &vars[i].First)
			}
		}
	}
	return l
}

// P7.1, 3: a first value sees the variables that are declared before its own.
func TestWhatFirstValuesSee(t *testing.T) {
	for name, want := range map[string]string{
		"i": "-+++++++", "j": "-+++++++", "k": "--++++++", "o": "---+++++", "p": "---+++++", "q": "----++++",
		"r": "-----+++", "s": "-----+++", "u": "------++", "v": "-------+", "w": "-------+", "y": "--------", "nothing": "--------",
	} {
		holdFirst(t, tree.Name(name), want)
		holdFirst(t, api.Expr{Kind: api.EMerge, Name: name, Names: []string{"A"}, Kids: []api.Expr{tree.Int(1)}}, want)
		holdFirst(t, tree.When(tree.Int(1), api.On{Ctor: "true", Var: name}), want)
		if strings.Contains("jpsw", name) {
			want = "--------"
		}
		holdFirst(t, api.Expr{Kind: api.ELast, Name: name}, want)
	}
	holdFirst(t, tree.Ctor("A"), "++++++++")
	holdFirst(t, tree.When(tree.Ctor("A"), api.On{Ctor: "B", Var: "i"}), "--------")
}
