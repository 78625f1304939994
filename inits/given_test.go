package inits_test

import (
	"math/rand"
	"reflect"
	"slices"
	"strconv"
	"testing"

	"metronome/api"
	"metronome/inits"
	"metronome/show"
	"metronome/tree"
)

// P1: what isn't well-formed, and names that aren't there, are no reason not to answer.
func TestWhatIsNotWellFormed(t *testing.T) {
	holdRight(t, "nothing", api.Program{})
	if l := inits.Late(api.Block{}); len(l) != 0 {
		t.Errorf("%q of nothing", l)
	}
	vars := []api.Var{{}, {Name: "x"}, {Name: "y", Last: true}, {Name: "y"}, {Name: "z", Clock: make([]api.On, 2)}, {Name: "x", Last: true}}
	for kind := range byte(16) {
		for kids := range 4 {
			for _, names := range [][]string{nil, {""}, {"A", "true"}} {
				e := api.Expr{Kind: kind, Name: "x", Names: names, Kids: make([]api.Expr, kids)}
				for i := range e.Kids {
					e.Kids[i] = api.Expr{Kind: byte(i+kids) * 3, Name: "z"}
				}
				holdAnswers(vars, e)
			}
		}
	}
}

// holdAnswers asks for what is late in blocks and programs with an expression at each place.
func holdAnswers(vars []api.Var, e api.Expr) {
	ways := []api.Trans{{E: e}}
	for kind := range byte(7) {
		for _, lhs := range [][]string{nil, {"nothing"}, {"x"}, {"y", "z"}, {"z"}} {
			within := api.Block{Vars: vars, Eqs: []api.Equation{{Kind: api.QDef, Lhs: lhs, E: e}}}
			for _, arms := range [][]api.Arm{nil, make([]api.Arm, 2), {{B: within, Unless: ways, Until: ways}}} {
				q := api.Equation{Kind: kind, Lhs: lhs, E: e, Args: []api.Expr{e, e}, Has: true, Name: "nothing", Arms: arms}
				n := api.Node{Outs: vars[:2], B: api.Block{Vars: vars[2:], Eqs: []api.Equation{q, q}}}
				inits.Check(api.Program{Nodes: []api.Node{n, {B: n.B}, {Ins: vars, B: n.B}}})
				inits.Late(n.B)
			}
		}
	}
}

// The document's terms: a field that a kind doesn't use is ignored.
func TestFieldsThatAreNotUsed(t *testing.T) {
	p := program(t, "node g(a: int) returns (b: int) let b = a; tel node f(c: bool; d: int) returns (last x: int = 0; y: int) var l: bool; z: int; let l = pre c; z = d; x = if c then 0 fby d + 1 else 2 -> d; y = g(1); switch c | true do | false do end; automaton | S do end; reset do every c; tel")
	junk := fby(tree.Int(0), api.Expr{Kind: api.EPre, Kids: []api.Expr{tree.Name("l")}})
	within, ways := api.Block{Vars: []api.Var{{Name: "o", Last: true}}, Eqs: []api.Equation{{Kind: api.QDef, Lhs: []string{"o"}, E: junk}}}, []api.Trans{{E: junk, To: "Nowhere"}}
	n := &p.Nodes[1]
	for i := range n.B.Eqs {
		q := &n.B.Eqs[i]
		switch q.Kind {
		case api.QDef:
			q.Name, q.Args, q.Has, q.Arms = "nothing", []api.Expr{junk}, true, []api.Arm{{B: within, Until: ways}}
		case api.QCall:
			q.E, q.Arms = junk, []api.Arm{{B: within, Until: ways}}
		case api.QSwitch, api.QReset:
			q.Lhs, q.Name, q.Args, q.Has = []string{"z"}, "nothing", []api.Expr{junk}, true
			q.Arms[0].Unless, q.Arms[0].Until = ways, ways
		case api.QAuto:
			q.Lhs, q.Name, q.Args, q.Has, q.E = []string{"z"}, "nothing", []api.Expr{junk}, true, junk
		}
	}
	for _, v := range all[api.Var](&p) {
		if !v.Last {
			v.First = junk
		}
	}
	for _, e := range all[api.Expr](n) {
		if e.Kind != api.EVar {
			e.Name = "l"
		}
		e.Names = []string{"true"}
	}
	holdRight(t, "fields that are not used", p)
	if l := inits.Late(n.B); !slices.Equal(l, []string{"l"}) {
		t.Errorf("%q", l)
	}
}

// P1: deep, and long; each is gone through once.
func TestGreatPrograms(t *testing.T) {
	const deep = 100000
	at := api.Pos{Line: 1, Col: 2}
	first, plus, b := tree.Name("x"), tree.Name("x"), api.Block{}
	for range deep {
		first = api.Expr{Kind: api.EArrow, Kids: []api.Expr{first, tree.Name("l")}}
		plus = api.Expr{Kind: api.EBin, Op: api.Add, Kids: []api.Expr{tree.Int(1), {Kind: api.EArrow, Kids: []api.Expr{plus, tree.Int(1)}}}}
	}
	for range deep / 5 {
		b = api.Block{Eqs: []api.Equation{{Kind: api.QReset, E: tree.Bool(true), Arms: []api.Arm{{B: b}}}}}
	}
	late := api.Equation{Kind: api.QDef, Lhs: []string{"l"}, E: api.Expr{Kind: api.EPre, Kids: []api.Expr{tree.Int(1)}}}
	for _, e := range []*api.Expr{&first, &plus} {
		b := api.Block{Vars: []api.Var{{Name: "l"}, {Name: "a"}}, Eqs: append(b.Eqs, late, api.Equation{Kind: api.QDef, Lhs: []string{"a"}, E: *e})}
		p := api.Program{Nodes: []api.Node{{Ins: []api.Var{{Name: "x"}}, B: b}}}
		holdRight(t, "deep", p)
		if l := inits.Late(b); !slices.Equal(l, []string{"l"}) {
			t.Errorf("deep: %q", l)
		}
		inner := some(e, func(e *api.Expr) bool { return e.Kind == api.EArrow })
		inner[len(inner)-1].Kids[0].Name, inner[len(inner)-1].At = "l", at
		holdError(t, "deep", p, at)
		if l := inits.Late(b); !slices.Equal(l, []string{"l", "a"}) {
			t.Errorf("deep, and late: %q", l)
		}
	}
}

// P10.1: what hangs on a long way, or in many ways, is late all the same.
func TestManyVariables(t *testing.T) {
	const many = 60000
	name := func(i int) string { return "v" + strconv.Itoa(i) }
	for _, turned := range []bool{false, true} {
		var b api.Block
		var want []string
		sum := tree.Name(name(many))
		for i := range many {
			want = append(want, name(i))
			b.Vars = append(b.Vars, api.Var{Name: name(i)})
			b.Eqs = append(b.Eqs, api.Equation{Kind: api.QDef, Lhs: []string{name(i)}, E: tree.Name(name(i + 1))})
			sum = api.Expr{Kind: api.EBin, Op: api.Add, Kids: []api.Expr{tree.Name(name(i)), sum}}
		}
		b.Vars = append(b.Vars, api.Var{Name: name(many)}, api.Var{Name: "all"}, api.Var{Name: "later"}, api.Var{Name: "none"})
		last := api.Equation{Kind: api.QDef, Lhs: []string{name(many)}, E: tree.Name("none")}
		b.Eqs = append(b.Eqs, last, api.Equation{Kind: api.QDef, Lhs: []string{"all"}, E: sum}, api.Equation{Kind: api.QDef, Lhs: []string{"later"}, E: fby(tree.Int(0), sum)})
		if turned {
			slices.Reverse(b.Eqs)
		}
		if l := inits.Late(b); len(l) != 0 {
			t.Errorf("%d late variables", len(l))
		}
		b.Eqs = append(b.Eqs, api.Equation{Kind: api.QDef, Lhs: []string{name(many)}, E: api.Expr{Kind: api.EPre, Kids: []api.Expr{sum}}})
		if l := inits.Late(b); !slices.Equal(l, append(want, name(many), "all")) {
			t.Errorf("%d late variables", len(l))
		}
	}
}

// P2, and the document's rules: a call gives the same answer each time, nil and empty lists are one to it, and it changes nothing that it was given, nor what stands behind it.
func TestAnswersAreAlike(t *testing.T) {
	m := &maker{Rand: rand.New(rand.NewSource(103))}
	for range 300 {
		p := m.program()
		m.change(&p.Nodes[m.Intn(len(p.Nodes))])
		place(&p)
		q := copied(p)
		want, late := inits.Check(q), inits.Late(q.Nodes[0].B)
		if !reflect.DeepEqual(p, q) || !emptyBehind(&q) {
			t.Fatalf("a program was changed\n%s", show.Program(q))
		}
		for _, v := range []func(reflect.Value){func(reflect.Value) {}, emptied, niled} {
			parts(reflect.ValueOf(&q).Elem(), v)
			if got := inits.Check(q); !reflect.DeepEqual(got, want) {
				t.Errorf("%v, want %v\n%s", got, want, show.Program(p))
			}
			if got := inits.Late(q.Nodes[0].B); !slices.Equal(got, late) {
				t.Errorf("%q, want %q\n%s", got, late, show.Program(p))
			}
		}
	}
}

// emptyBehind: is there still nothing in the room behind the lists of a value?
func emptyBehind[T any](x *T) bool {
	empty := true
	parts(reflect.ValueOf(x).Elem(), func(v reflect.Value) {
		if v.Kind() == reflect.Slice && v.Cap() > v.Len() {
			empty = empty && v.Slice(0, v.Len()+1).Index(v.Len()).IsZero()
		}
	})
	return empty
}

func emptied(v reflect.Value) {
	if v.Kind() == reflect.Slice && v.IsNil() {
		v.Set(reflect.MakeSlice(v.Type(), 0, 0))
	}
}

func niled(v reflect.Value) {
	if v.Kind() == reflect.Slice && v.Len() == 0 {
		v.SetZero()
	}
}
