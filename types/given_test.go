package types_test

import (
	"math/rand"
	"reflect"
	"strconv"
	"strings"
	"testing"

	"metronome/api"
	"metronome/show"
	"metronome/tree"
	"metronome/types"
)

// P1: what isn't well-formed, and names that aren't there, are no reason not to answer.
func TestWhatIsNotWellFormed(t *testing.T) {
	holdRight(t, "nothing", api.Program{})
	enums := []api.Enum{{}, {Name: "t", Ctors: []string{"A", "A", "true"}}, {Name: "t"}}
	vars := []api.Var{{}, {Last: true, Clock: make([]api.On, 2)}, {Name: "x", T: api.Type{Kind: api.TEnum, Name: "nothing"}}, {Name: "x", T: tT}, {Name: "y", T: api.Type{Kind: 9}}}
	for kind := range byte(16) {
		for kids := range 5 {
			for _, names := range [][]string{nil, {""}, {"A", "true"}} {
				e := api.Expr{Kind: kind, Op: byte(kids * 5), Name: "x", Names: names, Kids: make([]api.Expr, kids)}
				if _, err := types.Expr(api.Program{}, nil, e); err == nil && kind != api.EInt && kind != api.EBool || kids > 0 && err == nil {
					t.Errorf("%v has a type", e)
				}
				for i := range e.Kids {
					e.Kids[i] = api.Expr{Kind: byte(i+kids) % 5, Name: "x"}
				}
				types.Expr(api.Program{Enums: enums}, vars, e)
				holdAnswers(enums, vars, e)
			}
		}
	}
}

// holdAnswers asks for the types of programs with an expression at each place.
func holdAnswers(enums []api.Enum, vars []api.Var, e api.Expr) {
	first := append([]api.Var{{Name: "z", Last: true, First: e}}, vars...)
	ways := []api.Trans{{E: e}}
	for eq := range byte(7) {
		for _, q := range []api.Equation{
			{Kind: eq, E: e, Args: []api.Expr{e}, Has: true, Name: "nothing"},
			{Kind: eq, E: e, Args: []api.Expr{e, e}, Has: true, Lhs: []string{"nothing"}},
			{Kind: eq, E: e, Lhs: []string{"x", "y"}, Arms: make([]api.Arm, 2)},
			{Kind: eq, Lhs: []string{"x"}, Arms: []api.Arm{{Name: "A", B: api.Block{Vars: first}, Unless: ways, Until: ways}}},
		} {
			n := api.Node{Ins: vars, Outs: first[:1], B: api.Block{Vars: first, Eqs: []api.Equation{q, q}}}
			types.Check(api.Program{Enums: enums, Nodes: []api.Node{n, n}})
			types.Check(api.Program{Enums: enums, Nodes: []api.Node{{B: n.B}}})
		}
	}
}

// The document's terms: a field that a kind doesn't use is ignored.
func TestFieldsThatAreNotUsed(t *testing.T) {
	p := program(t, "node g(a: int) returns (b: int) let b = a; tel node f(c: bool; d: int) returns (last x: int = 0; y: int) let x = if c then d + 1 else 2; y = g(1); switch c | true do | false do end; automaton | S do end; reset do every c; tel")
	junk, within := tree.Name("c"), api.Block{Eqs: []api.Equation{{Kind: api.QDef, Lhs: []string{"x"}, E: tree.Bool(true)}}}
	ways := []api.Trans{{E: tree.Int(1), To: "Nowhere"}}
	for i := range p.Nodes[1].B.Eqs {
		q := &p.Nodes[1].B.Eqs[i]
		switch q.Kind {
		case api.QDef:
			q.Name, q.Args, q.Has, q.Arms = "nothing", []api.Expr{junk}, true, []api.Arm{{B: within}}
		case api.QCall:
			q.E, q.Arms = tree.Int(1), []api.Arm{{B: within}}
		case api.QSwitch, api.QReset:
			q.Lhs, q.Name, q.Args, q.Has = []string{"x"}, "nothing", []api.Expr{junk}, true
			q.Arms[0].Unless, q.Arms[0].Until = ways, ways
		case api.QAuto:
			q.Lhs, q.Name, q.Args, q.Has, q.E = []string{"x"}, "nothing", []api.Expr{junk}, true, tree.Int(1)
		}
	}
	for _, v := range all[api.Var](&p) {
		v.T.Name = "unused"
		if !v.Last {
			v.First = junk
		}
	}
	for _, e := range all[api.Expr](&p) {
		if e.Kind != api.EUn && e.Kind != api.EBin {
			e.Op = api.Not
		}
		if e.Kind != api.EVar {
			e.Name = "nothing"
		}
		e.Names = []string{"Nothing"}
	}
	holdRight(t, "fields that are not used", p)
}

// P1: deep, and long.
func TestGreatPrograms(t *testing.T) {
	const deep = 20000
	e, b, at := tree.Bool(true), api.Block{}, api.Pos{Line: 1, Col: 2}
	for range deep {
		e = api.Expr{Kind: api.EUn, Op: api.Not, Kids: []api.Expr{e}}
	}
	for range deep {
		b = api.Block{Eqs: []api.Equation{{Kind: api.QReset, E: tree.Bool(true), Arms: []api.Arm{{B: b}}}}}
	}
	b.Eqs = append(b.Eqs, api.Equation{Kind: api.QDef, Lhs: []string{"x"}, E: e})
	p := api.Program{Nodes: []api.Node{{Outs: []api.Var{{Name: "x", T: boolT}}, B: b}}}
	holdRight(t, "deep", p)
	parts := all[api.Expr](&e)
	parts[deep].Kind, parts[deep-1].At = api.EInt, at
	holdError(t, "deep", p, at)
	var s strings.Builder
	s.WriteString("type t = A0")
	for i := range 30 {
		s.WriteString(" | A" + strconv.Itoa(i+1))
	}
	s.WriteString("; node f(c: t) returns () var a: t; ")
	for i := range 2500 {
		s.WriteString("a" + strconv.Itoa(i) + ": t; ")
	}
	s.WriteString("let a=c;")
	for i := range 2500 {
		s.WriteString("a" + strconv.Itoa(i) + "=A" + strconv.Itoa(i%31) + ";")
	}
	right(t, s.String()+"tel")
}

// P2, and the document's rules: a call gives the same answer each time, nil and empty lists are one to it, and it changes nothing that it was given.
func TestAnswersAreAlike(t *testing.T) {
	m := &maker{Rand: rand.New(rand.NewSource(2))}
	for range 300 {
		p := m.program()
		m.change(&p)
		place(&p)
		q := copied(p)
		want := types.Check(p)
		if !reflect.DeepEqual(p, q) {
			t.Fatalf("a program was changed\n%s", show.Program(q))
		}
		for _, v := range []func(reflect.Value){func(reflect.Value) {}, emptied, niled} {
			parts(reflect.ValueOf(&q).Elem(), v)
			if got := types.Check(q); !reflect.DeepEqual(got, want) {
				t.Errorf("%v, want %v\n%s", got, want, show.Program(p))
			}
		}
	}
}

func emptied(v reflect.Value) {
	if v.Kind() == reflect.Slice && v.IsNil() {
		v.Set(reflect.MakeSlice(v.Type(), 0, 0))
	}
}

func niled(v reflect.Value) {
	if v.Kind() == reflect.Slice && v.Len() == 0 {
		v.SetZero()
	}
}

// P2, and the document's rules: of Expr too.
func TestTypesOfExpressionsAreAlike(t *testing.T) {
	m := &maker{Rand: rand.New(rand.NewSource(3)), p: typed}
	for range 2000 {
		p, vars, e := copied(typed), copied(env), m.expr(env, m.kind(), 5, false)
		m.changeExpr(&e, &e)
		f := copied(e)
		got, err := types.Expr(p, vars, e)
		if !reflect.DeepEqual(e, f) || !reflect.DeepEqual(p, copied(typed)) || !reflect.DeepEqual(vars, copied(env)) {
			t.Fatalf("%s: an argument was changed", show.Expr(f))
		}
		if again, errAgain := types.Expr(typed, env, f); again != got || !reflect.DeepEqual(errAgain, err) {
			t.Errorf("%s: %v, %v, and then %v, %v", show.Expr(f), got, err, again, errAgain)
		}
	}
}
