package names_test

import (
	"math/rand"
	"reflect"
	"strconv"
	"strings"
	"testing"

	"metronome/api"
	"metronome/names"
	"metronome/tree"
)

// P1: what isn't well-formed, and what has nothing in it, is no reason not to answer.
func TestWhatIsNotWellFormed(t *testing.T) {
	holdError(t, "nothing", api.Program{}, api.OK, api.Pos{})
	for kind := range byte(15) {
		for _, e := range []api.Expr{{Kind: kind}, {Kind: kind, Names: []string{"A", ""}}, {Kind: kind, Kids: make([]api.Expr, 4)}} {
			for eq := range byte(7) {
				for _, q := range []api.Equation{
					{Kind: eq, E: e, Args: []api.Expr{e}, Has: true},
					{Kind: eq, E: e, Lhs: []string{"x", "y"}, Arms: make([]api.Arm, 2)},
					{Kind: eq, Lhs: []string{"x"}, Arms: []api.Arm{{Unless: []api.Trans{{E: e}}, Until: []api.Trans{{E: e}}}}},
				} {
					p := api.Program{Enums: make([]api.Enum, 1), Nodes: []api.Node{{B: api.Block{Eqs: []api.Equation{q}}}}}
					names.Check(p)
					names.Needs(p, "")
					names.Order(p)
				}
			}
		}
	}
}

// The document's terms: a field that a kind doesn't use is ignored.
func TestFieldsThatAreNotUsed(t *testing.T) {
	p := program(t, "node g(a: int) returns (b: int) let b = a; tel node f(c: bool) returns (x: int; y: int) let x = 1; y = g(1); switch c | true do end; automaton | S do end; reset do every c; tel")
	junk, within := tree.Name("nothing"), api.Block{Eqs: []api.Equation{{Kind: api.QDef, Lhs: []string{"x"}, E: tree.Ctor("Nothing")}}}
	ways := []api.Trans{{E: junk, To: "Nowhere"}}
	for i := range p.Nodes[1].B.Eqs {
		q := &p.Nodes[1].B.Eqs[i]
		switch q.Kind {
		case api.QDef:
			q.Name, q.Args, q.Has, q.Arms = "nothing", []api.Expr{junk}, true, []api.Arm{{B: within}}
		case api.QCall:
			q.E, q.Arms = junk, []api.Arm{{B: within}}
		case api.QSwitch, api.QReset:
			q.Lhs, q.Name, q.Args, q.Has = []string{"x"}, "nothing", []api.Expr{junk}, true
			q.Arms[0].Unless, q.Arms[0].Until = ways, ways
		case api.QAuto:
			q.Lhs, q.Name, q.Args, q.Has, q.E = []string{"x"}, "nothing", []api.Expr{junk}, true, junk
		}
	}
	holdError(t, "fields that are not used", p, api.OK, api.Pos{})
}

// P1: deep, and long.
func TestGreatPrograms(t *testing.T) {
	const deep = 20000
	e, b := tree.Name("nothing"), api.Block{}
	e.At = api.Pos{Line: 1, Col: 2}
	for range deep {
		e = api.Expr{Kind: api.EPre, Kids: []api.Expr{e}}
	}
	for range deep {
		b = api.Block{Eqs: []api.Equation{{Kind: api.QReset, E: tree.Bool(true), Arms: []api.Arm{{B: b}}}}}
	}
	b.Eqs = append(b.Eqs, api.Equation{Kind: api.QSwitch, E: e})
	holdError(t, "deep", api.Program{Nodes: []api.Node{{B: b}}}, api.Name, api.Pos{Line: 1, Col: 2})
	var s strings.Builder
	s.WriteString("node f(c: bool) returns () var a: int; ")
	for i := range 2500 {
		s.WriteString("a" + strconv.Itoa(i) + ": int; ")
	}
	const levels = 60
	s.WriteString("let " + strings.Repeat("reset do ", levels) + "a = 1; ")
	for i := range 2500 {
		s.WriteString("a" + strconv.Itoa(i) + "=1;")
	}
	right(t, s.String()+strings.Repeat("every c; ", levels)+"tel")
}

// copied is a copy of a program that shares nothing with it.
func copied(p api.Program) api.Program {
	parts(reflect.ValueOf(&p).Elem(), func(v reflect.Value) {
		if v.Kind() == reflect.Slice {
			l := reflect.MakeSlice(v.Type(), v.Len(), v.Len())
			reflect.Copy(l, v)
			v.Set(l)
		}
	})
	return p
}

// P2, and the document's rules: a call gives the same answer each time, changes nothing that it was given, and gives it to nobody.
func TestAnswersAreAlikeAndApart(t *testing.T) {
	m := &maker{Rand: rand.New(rand.NewSource(2))}
	for range 300 {
		p := m.program()
		m.change(&p)
		place(&p)
		q := copied(p)
		err, order := names.Check(p), names.Order(p)
		if again := names.Check(q); !reflect.DeepEqual(err, again) {
			t.Errorf("%v, and then %v", err, again)
		}
		if again := names.Order(q); !reflect.DeepEqual(order, again) {
			t.Errorf("%v, and then %v", order, again)
		}
		for _, n := range q.Nodes {
			needs := names.Needs(p, n.Name)
			for i := range needs {
				needs[i] = "changed"
			}
		}
		for i := range order {
			order[i] = "changed"
		}
		if !tree.Same(p, q) {
			t.Fatal("an answer is a part of the program")
		}
	}
}
