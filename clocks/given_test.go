package clocks_test

import (
	"math/rand"
	"reflect"
	"strconv"
	"strings"
	"testing"

	"metronome/api"
	"metronome/clocks"
	"metronome/show"
	"metronome/tree"
)

// P1: what isn't well-formed, and names that aren't there, are no reason not to answer.
func TestWhatIsNotWellFormed(t *testing.T) {
	holdRight(t, "nothing", api.Program{})
	on := []api.On{{Ctor: "A", Var: "x"}, {}}
	vars := []api.Var{{}, {Name: "x"}, {Name: "y", Clock: on[:1]}, {Name: "y", Clock: on}, {Name: "z", Clock: on[1:]}, {Name: "x", Clock: make([]api.On, 3)}}
	for kind := range byte(16) {
		for kids := range 4 {
			for _, names := range [][]string{nil, {""}, {"A", "true"}} {
				e := api.Expr{Kind: kind, Name: "x", Names: names, Kids: make([]api.Expr, kids)}
				for i := range e.Kids {
					e.Kids[i] = api.Expr{Kind: byte(i+kids) * 3, Name: "z"}
				}
				holdAnswers(vars, e)
			}
		}
	}
}

// holdAnswers asks for the clocks of programs with an expression at each place.
func holdAnswers(vars []api.Var, e api.Expr) {
	ways := []api.Trans{{E: e}}
	for kind := range byte(7) {
		for _, lhs := range [][]string{nil, {"nothing"}, {"x"}, {"y", "z"}, {"z"}} {
			within := api.Block{Vars: vars, Eqs: []api.Equation{{Kind: api.QDef, Lhs: lhs, E: e}}}
			for _, arms := range [][]api.Arm{nil, make([]api.Arm, 2), {{B: within, Unless: ways, Until: ways}}} {
				q := api.Equation{Kind: kind, Lhs: lhs, E: e, Args: []api.Expr{e, e}, Has: true, Name: "nothing", Arms: arms}
				n := api.Node{Outs: vars[:2], B: api.Block{Vars: vars[2:], Eqs: []api.Equation{q, q}}}
				clocks.Check(api.Program{Nodes: []api.Node{n, {B: n.B}, {Ins: vars, B: n.B}}})
			}
		}
	}
}

// The document's terms: a field that a kind doesn't use is ignored.
func TestFieldsThatAreNotUsed(t *testing.T) {
	p := program(t, "node g(a: int) returns (b: int) let b = a; tel node f(c: bool; d: int) returns (last x: int = 0; y: int) var w: int when true(c); let w = 0; x = if c then d + 1 else 2; y = g(1); switch c | true do | false do end; automaton | S do end; reset do every c; tel")
	junk := tree.Name("w")
	within, ways := api.Block{Eqs: []api.Equation{{Kind: api.QDef, Lhs: []string{"x"}, E: junk}}}, []api.Trans{{E: junk, To: "Nowhere"}}
	for i := range p.Nodes[1].B.Eqs {
		q := &p.Nodes[1].B.Eqs[i]
		switch q.Kind {
		case api.QDef:
			q.Name, q.Args, q.Has, q.Arms = "nothing", []api.Expr{junk}, true, []api.Arm{{B: within, Until: ways}}
		case api.QCall:
			q.E, q.Arms = junk, []api.Arm{{B: within, Until: ways}}
		case api.QSwitch, api.QReset:
			q.Lhs, q.Name, q.Args, q.Has = []string{"w"}, "nothing", []api.Expr{junk}, true
			q.Arms[0].Unless, q.Arms[0].Until = ways, ways
		case api.QAuto:
			q.Lhs, q.Name, q.Args, q.Has, q.E = []string{"w"}, "nothing", []api.Expr{junk}, true, junk
		}
	}
	for _, v := range all[api.Var](&p) {
		v.First = junk
	}
	for _, e := range all[api.Expr](&p) {
		if e.Kind != api.EVar {
			e.Name = "w"
		}
		e.Names = []string{"true"}
	}
	holdRight(t, "fields that are not used", p)
}

// P1: deep, and long.
func TestGreatPrograms(t *testing.T) {
	const deep = 20000
	x, c := api.Var{Name: "x"}, api.Var{Name: "c"}
	at := api.Pos{Line: 1, Col: 2}
	e, b := tree.When(tree.Name("x"), api.On{Ctor: "true", Var: "c"}), api.Block{}
	for range deep {
		e = tree.When(api.Expr{Kind: api.EMerge, Name: "c", Names: []string{"true"}, Kids: []api.Expr{e}}, api.On{Ctor: "true", Var: "c"})
	}
	for range deep {
		b = api.Block{Eqs: []api.Equation{{Kind: api.QReset, E: tree.Bool(true), Arms: []api.Arm{{B: b}}}}}
	}
	b.Vars = []api.Var{{Name: "w", Clock: []api.On{{Ctor: "true", Var: "c"}}}}
	b.Eqs = append(b.Eqs, api.Equation{Kind: api.QDef, Lhs: []string{"w"}, E: e})
	p := api.Program{Nodes: []api.Node{{Ins: []api.Var{x, c}, B: b}}}
	holdRight(t, "deep", p)
	parts := all[api.Expr](&e)
	parts[len(parts)-1].Name, parts[len(parts)-1].At = "w", at
	holdError(t, "deep", p, at)
	e = tree.Int(1)
	for range deep {
		e = api.Expr{Kind: api.EMerge, Name: "c", Names: []string{"true"}, Kids: []api.Expr{e}, At: at}
	}
	e.At = api.Pos{}
	p.Nodes[0].B = api.Block{Eqs: []api.Equation{{Kind: api.QCall, E: e, Has: true}}}
	holdError(t, "merged and merged again", p, at)
}

// P9.2, P9.3: clocks of many samplings are compared to their ends.
func TestLongClocks(t *testing.T) {
	var vars, eqs strings.Builder
	clock := ""
	for i := range 60 {
		name := "c" + strconv.Itoa(i)
		vars.WriteString(name + ": bool" + clock + "; ")
		eqs.WriteString(name + " = true; ")
		clock += " when true(" + name + ")"
	}
	about := func(o, w string) string {
		return "node f() returns () var " + vars.String() + o + "; w: bool" + clock + "; last v: bool" + clock + " = true; let o = true; w = " + w + "; v = w; " + eqs.String() + "tel"
	}
	turned := strings.Replace(clock, "c30) when true(c31", "c31) when true(c30", 1)
	right(t, about("o: bool"+clock, "pre last v"), about("o: bool"+clock, "o"), about("o: bool", "c59 when true(c59)"))
	wrong(t, about("o: bool", "@c59"), about("o: bool", "@c58 when true(c58)"), about("@o: bool"+turned, "o"), about("@o: bool"+strings.TrimPrefix(clock, " when true(c0)"), "o"))
}

// P2, and the document's rules: a call gives the same answer each time, nil and empty lists are one to it, and it changes nothing that it was given, nor what stands behind it.
func TestAnswersAreAlike(t *testing.T) {
	m := &maker{Rand: rand.New(rand.NewSource(92))}
	for range 300 {
		p := m.program()
		m.change(&p.Nodes[m.Intn(len(p.Nodes))])
		place(&p)
		q := copied(p)
		want := clocks.Check(q)
		if !reflect.DeepEqual(p, q) || !emptyBehind(&q) {
			t.Fatalf("a program was changed\n%s", show.Program(q))
		}
		for _, v := range []func(reflect.Value){func(reflect.Value) {}, emptied, niled} {
			parts(reflect.ValueOf(&q).Elem(), v)
			if got := clocks.Check(q); !reflect.DeepEqual(got, want) {
				t.Errorf("%v, want %v\n%s", got, want, show.Program(p))
			}
		}
	}
}

// emptyBehind: is there still nothing in the room behind the lists of a value?
func emptyBehind[T any](x *T) bool {
	empty := true
	parts(reflect.ValueOf(x).Elem(), func(v reflect.Value) {
		if v.Kind() == reflect.Slice && v.Cap() > v.Len() {
			empty = empty && v.Slice(0, v.Len()+1).Index(v.Len()).IsZero()
		}
	})
	return empty
}

func emptied(v reflect.Value) {
	if v.Kind() == reflect.Slice && v.IsNil() {
		v.Set(reflect.MakeSlice(v.Type(), 0, 0))
	}
}

func niled(v reflect.Value) {
	if v.Kind() == reflect.Slice && v.Len() == 0 {
		v.SetZero()
	}
}

// P9.1: Same changes nothing either.
func TestSameChangesNothing(t *testing.T) {
	a := append(make([]api.On, 0, 4), api.On{Ctor: "A", Var: "x"})
	b := append(make([]api.On, 0, 4), api.On{Ctor: "A", Var: "x"}, api.On{Ctor: "B", Var: "y"})
	x, y := copied(a), copied(b)
	for range 2 {
		if clocks.Same(a, b) || !clocks.Same(a, b[:1]) || !reflect.DeepEqual(a, x) || !reflect.DeepEqual(b, y) || !emptyBehind(&a) || !emptyBehind(&b) {
			t.Errorf("%v, %v", a, b)
		}
	}
}
