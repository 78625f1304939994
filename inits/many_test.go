package inits_test

import (
	"math/rand"
	"reflect"
	"slices"
	"strconv"
	"testing"

	"metronome/api"
	"metronome/clocks"
	"metronome/inits"
	"metronome/names"
	"metronome/show"
	"metronome/tree"
	"metronome/types"
)

// rules are those of the second reading that programs at random are to come upon.
func rules() []string {
	l := []string{"right", "late variable with a last value", "definition: late, but of no variable of the block"}
	for _, where := range []string{"definition", "argument", "call", "reset", "switch"} {
		l = append(l, where+": fby", where+": pre", where+": ->")
	}
	for _, where := range []string{"argument", "call", "reset", "switch", "unless", "until"} {
		l = append(l, where+": late")
	}
	for _, where := range []string{"definition", "argument", "call", "reset", "switch", "unless", "until"} {
		l = append(l, where+": when", where+": merge")
	}
	return l
}

// holdRules holds the second reading to have come upon rules, and on no others.
func holdRules(t *testing.T, seen map[string]int, rules []string) {
	t.Helper()
	for _, rule := range rules {
		if seen[rule] < 3 {
			t.Errorf("%d against the rule: %s", seen[rule], rule)
		}
		delete(seen, rule)
	}
	for rule := range seen {
		t.Errorf("a rule that the test doesn't know: %s", rule)
	}
}

// checked is what is wrong with the names, types or clocks of a program. For those that have such an error the chapter promises nothing.
func checked(p api.Program) error {
	for _, check := range []func(api.Program) error{names.Check, types.Check, clocks.Check} {
		if err := check(p); err != nil {
			return err
		}
	}
	return nil
}

func holdReading(t *testing.T, p api.Program) string {
	t.Helper()
	want, rule := read(p)
	if got := inits.Check(p); !reflect.DeepEqual(got, want) {
		t.Fatalf("%v, want %v: %s\n%s", got, want, rule, show.Program(p))
	}
	return rule
}

func holdLate(t *testing.T, b api.Block) []string {
	t.Helper()
	late := lateOf(b, nil)
	var want []string
	for _, v := range b.Vars {
		if slices.Contains(late, v.Name) {
			want = append(want, v.Name)
		}
	}
	if got := inits.Late(b); !slices.Equal(got, want) {
		t.Fatalf("%q, want %q\n%s", got, want, show.Program(api.Program{Nodes: []api.Node{{B: b}}}))
	}
	return want
}

// P10.1, P10.2: programs at random, and what becomes of them when a little is changed, against the second reading. Where a change makes a name, a type or a clock wrong, the chapter promises nothing but an answer.
func TestManyPrograms(t *testing.T) {
	m := &maker{Rand: rand.New(rand.NewSource(101))}
	seen := map[string]int{}
	for range 1000 {
		p := m.program()
		place(&p)
		if rule := holdReading(t, p); rule != "right" || checked(p) != nil {
			t.Fatalf("the test itself has gone wrong: %s, %v\n%s", rule, checked(p), show.Program(p))
		}
		for range 10 {
			q := copied(p)
			m.change(&q.Nodes[m.Intn(len(q.Nodes))])
			place(&q)
			for _, b := range all[api.Block](&q) {
				holdLate(t, *b)
			}
			if checked(q) != nil {
				inits.Check(q)
				continue
			}
			seen[holdReading(t, q)]++
		}
	}
	holdRules(t, seen, rules())
}

// change changes a little in a node, expressions of each sort of place as often as those of others.
func (m *maker) change(n *api.Node) {
	if m.Intn(8) == 0 {
		v := pick(m, all[api.Var](n))
		v.Last, v.First = !v.Last, tree.Bool(true)
	}
	places := used(n)
	for range 1 + m.Intn(2) {
		if len(places) > 0 {
			m.changeExpr(pick(m, pick(m, places)), n)
		}
	}
}

// changeExpr changes one thing in an expression.
func (m *maker) changeExpr(e *api.Expr, n *api.Node) {
	of := func(kinds ...byte) []*api.Expr {
		return some(e, func(e *api.Expr) bool { return slices.Contains(kinds, e.Kind) })
	}
	name := m.lateName(n)
	switch m.Intn(7) {
	case 0:
		for _, e := range of(api.EFby, api.EArrow) {
			slices.Reverse(e.Kids)
		}
	case 1, 2:
		if l := of(api.EMerge); len(l) > 0 {
			resample(pick(m, l), name)
		}
	case 3, 4:
		e := pick(m, all[api.Expr](e))
		*e = api.Expr{Kind: api.EPre, Kids: []api.Expr{*e}}
	case 5:
		*e = *pick(m, all[api.Expr](e))
	default:
		if l := of(api.EVar); len(l) > 0 {
			pick(m, l).Name = name
		}
	}
}

// lateName is the name of a variable of a node, most often of one that is late.
func (m *maker) lateName(n *api.Node) string {
	var l []string
	for _, b := range all[api.Block](n) {
		l = append(l, lateOf(*b, nil)...)
	}
	if len(l) == 0 || m.Intn(5) == 0 {
		return pick(m, all[api.Var](n)).Name
	}
	return pick(m, l)
}

// resample merges by another variable, and samples by it what is merged.
func resample(e *api.Expr, name string) {
	for _, in := range some(e, func(in *api.Expr) bool { return in.Kind == api.EWhen && in.Name == e.Name }) {
		in.Name = name
	}
	e.Name = name
}

// used are the expressions of a node that are not within others, those of each sort of place in a list of their own.
func used(n *api.Node) [][]*api.Expr {
	const argument, unless, until = api.QAuto, 6, 7 // the others are those of the kinds of equations
	l := make([][]*api.Expr, 8)
	for _, q := range all[api.Equation](n) {
		if q.Kind != api.QAuto && (q.Kind != api.QCall || q.Has) {
			l[q.Kind] = append(l[q.Kind], &q.E)
		}
		for i := range q.Args {
			l[argument] = append(l[argument], &q.Args[i])
		}
	}
	for _, a := range all[api.Arm](n) {
		for i := range a.Unless {
			l[unless] = append(l[unless], &a.Unless[i].E)
		}
		for i := range a.Until {
			l[until] = append(l[until], &a.Until[i].E)
		}
	}
	return slices.DeleteFunc(l, func(l []*api.Expr) bool { return len(l) == 0 })
}

// P10.1: the late variables of blocks at random, whose names need not be right, against the second reading.
func TestManyBlocks(t *testing.T) {
	m := &maker{Rand: rand.New(rand.NewSource(102))}
	found := map[int]int{}
	for range 20000 {
		found[len(holdLate(t, m.anyBlock(2)))]++
	}
	for n := range 5 {
		if found[n] < 100 {
			t.Errorf("%d blocks with %d late variables", found[n], n)
		}
	}
}

func (m *maker) anyName() string { return "v" + strconv.Itoa(m.Intn(12)) }

func (m *maker) anyBlock(deep int) api.Block {
	var b api.Block
	for range m.Intn(12) {
		b.Vars = append(b.Vars, api.Var{Name: m.anyName(), Last: m.Intn(4) == 0})
	}
	for range m.Intn(20) {
		q := api.Equation{Kind: api.QDef, Lhs: []string{m.anyName()}, E: m.anyExpr(3)}
		if m.Intn(6) == 0 {
			q.Kind = 1 + byte(m.Intn(5))
		}
		if deep > 0 && q.Kind > api.QCall {
			q.Arms = []api.Arm{{B: m.anyBlock(deep - 1)}}
		}
		b.Eqs = append(b.Eqs, q)
	}
	return b
}

// anyExpr is an expression of any kind, with as many kids as its kind requires.
func (m *maker) anyExpr(deep int) api.Expr {
	e := api.Expr{Kind: api.EVar, Name: m.anyName()}
	if m.Intn(4) > 0 {
		e.Kind = 1 + byte(m.Intn(int(api.EMerge)))
	}
	kids := [api.EMerge + 1]int{api.EUn: 1, api.EBin: 2, api.EIf: 3, api.EFby: 2, api.EPre: 1, api.EArrow: 2, api.EWhen: 1, api.EMerge: 2}[e.Kind]
	if deep == 0 && kids > 0 || e.Kind == api.EPre && m.Intn(2) == 0 {
		return tree.Name(m.anyName())
	}
	for range kids {
		e.Kids = append(e.Kids, m.anyExpr(deep-1))
	}
	return e
}
