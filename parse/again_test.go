package parse_test

import (
	"math"
	"math/rand"
	"reflect"
	"strings"
	"testing"

	"metronome/api"
	"metronome/faults"
	"metronome/parse"
	"metronome/show"
	"metronome/tree"
)

// maker makes programs at random, of names that can be read.
type maker struct{ *rand.Rand }

func (m maker) of(words string) string {
	l := strings.Fields(words)
	return l[m.Intn(len(l))]
}

func (m maker) small() string { return m.of("a b x y_1 fBy lasts n0 t") }

func (m maker) great() string { return m.of("A B Red C_2 True X0") }

func (m maker) ctor() string { return m.of("A B Red true false") }

func (m maker) on() api.On { return api.On{Ctor: m.ctor(), Var: m.small()} }

// some is up to most of what is made.
func some[T any](m maker, least, most int, one func() T) []T {
	l := []T{}
	for range least + m.Intn(most-least+1) {
		l = append(l, one())
	}
	return l
}

func (m maker) constant() api.Expr {
	numbers := []int32{0, 1, -1, 7, math.MaxInt32, math.MinInt32}
	return []api.Expr{tree.Int(numbers[m.Intn(len(numbers))]), tree.Bool(m.Intn(2) == 0), tree.Ctor(m.great())}[m.Intn(3)]
}

func (m maker) expr(deep int) api.Expr {
	if deep <= 1 || m.Intn(6) == 0 {
		return []api.Expr{m.constant(), tree.Name(m.small()), {Kind: api.ELast, Name: m.small()}}[m.Intn(3)]
	}
	kid := func() api.Expr { return m.expr(deep - 1) }
	e := api.Expr{Kind: api.EUn + byte(m.Intn(8))}
	switch e.Kind {
	case api.EUn:
		e.Op, e.Kids = api.Not+byte(m.Intn(2)), some(m, 1, 1, kid)
	case api.EBin:
		e.Op, e.Kids = api.Add+byte(m.Intn(14)), some(m, 2, 2, kid)
	case api.EIf:
		e.Kids = some(m, 3, 3, kid)
	case api.EFby:
		e.Kids = []api.Expr{m.constant(), kid()}
	case api.EPre:
		e.Kids = some(m, 1, 1, kid)
	case api.EArrow:
		e.Kids = some(m, 2, 2, kid)
	case api.EWhen:
		return tree.When(kid(), m.on())
	case api.EMerge:
		e.Name, e.Kids = m.small(), some(m, 1, 3, kid)
		e.Names = some(m, len(e.Kids), len(e.Kids), m.ctor)
	}
	return e
}

func (m maker) variable() api.Var {
	types := []api.Type{{Kind: api.TBool}, {Kind: api.TInt}, {Kind: api.TEnum, Name: m.small()}}
	v := api.Var{Name: m.small(), T: types[m.Intn(3)], Clock: some(m, 0, 2, m.on), Last: m.Intn(3) == 0}
	if v.Last {
		v.First = m.constant()
	}
	return v
}

func (m maker) way() api.Trans {
	return api.Trans{E: m.expr(3), To: m.great(), Resume: m.Intn(2) == 0}
}

func (m maker) block(deep int) api.Block {
	return api.Block{Vars: some(m, 0, 2, m.variable), Eqs: some(m, 0, 3, func() api.Equation { return m.eq(deep) })}
}

func (m maker) eq(deep int) api.Equation {
	kinds := 5
	if deep <= 1 {
		kinds = 2
	}
	q := api.Equation{Kind: api.QDef + byte(m.Intn(kinds)), E: m.expr(4)}
	arm := func() api.Arm { return api.Arm{Name: m.ctor(), B: m.block(deep - 1)} }
	switch q.Kind {
	case api.QDef:
		q.Lhs = []string{m.small()}
	case api.QCall:
		q.Lhs, q.Name, q.Args, q.Has = some(m, 0, 3, m.small), m.small(), some(m, 0, 3, func() api.Expr { return m.expr(4) }), m.Intn(2) == 0
		if !q.Has {
			q.E = api.Expr{}
		}
	case api.QSwitch:
		q.Arms = some(m, 1, 3, arm)
	case api.QAuto:
		q.E = api.Expr{}
		q.Arms = some(m, 1, 3, func() api.Arm {
			return api.Arm{Name: m.great(), B: m.block(deep - 1), Unless: some(m, 0, 2, m.way), Until: some(m, 0, 2, m.way)}
		})
	case api.QReset:
		q.Arms = []api.Arm{{B: m.block(deep - 1)}}
	}
	return q
}

func (m maker) node() api.Node {
	return api.Node{Name: m.small(), Ins: some(m, 0, 2, m.variable), Outs: some(m, 0, 2, m.variable), B: m.block(4)}
}

func (m maker) program() api.Program {
	enum := func() api.Enum { return api.Enum{Name: m.small(), Ctors: some(m, 1, 4, m.great)} }
	return api.Program{Enums: some(m, 0, 3, enum), Nodes: some(m, 0, 3, m.node)}
}

// P6.3: what is shown is read as it was.
func TestShownProgramsAreReadAgain(t *testing.T) {
	m := maker{rand.New(rand.NewSource(63))}
	for range 3000 {
		p := m.program()
		text := show.Program(p)
		if len(text) > api.MaxText {
			continue
		}
		if got := program(t, text); !tree.Same(got, p) {
			t.Fatalf("read again, the program is another one:\n%s\n%s", text, show.Program(got))
		}
	}
	for range 10000 {
		e := m.expr(6)
		text := show.Expr(e)
		if got := expr(t, text); !tree.SameExpr(got, e) {
			t.Fatalf("read again, the expression is another one:\n%s\n%s", text, show.Expr(got))
		}
	}
}

// P6.3: also at the limits.
func TestTheGreatestProgramsAreReadAgain(t *testing.T) {
	deep := tree.Name("a")
	for range api.MaxDepth - 1 {
		deep = tree.When(deep, api.On{Ctor: "A", Var: "c"})
	}
	p := api.Program{}
	for range api.MaxNodes {
		p.Nodes = append(p.Nodes, api.Node{Name: strings.Repeat("n", api.MaxName), Outs: []api.Var{{Name: "x", T: api.Type{Kind: api.TInt}, Last: true, First: tree.Int(math.MinInt32)}}})
	}
	p.Enums = []api.Enum{{Name: strings.Repeat("t", api.MaxName), Ctors: strings.Fields(strings.Repeat("A ", api.MaxCtors))}}
	arms := make([]api.Arm, api.MaxCtors)
	for i := range arms {
		arms[i] = api.Arm{Name: "A", B: api.Block{Eqs: []api.Equation{{Kind: api.QDef, Lhs: []string{"x"}, E: deep.Kids[0]}}}}
	}
	p.Nodes[0].B.Eqs = []api.Equation{{Kind: api.QDef, Lhs: []string{"x"}, E: deep}, {Kind: api.QSwitch, E: tree.Name("c"), Arms: arms}, {Kind: api.QAuto, Arms: arms}}
	if got := program(t, show.Program(p)); !tree.Same(got, p) {
		t.Error("read again, the program is another one")
	}
}

// holdAnswer holds what every answer to a text is held to: an error, and nothing beside it; or what, shown, is read as it was.
func holdAnswer(t *testing.T, text string) {
	t.Helper()
	p, err := parse.Program(text)
	holdError(t, text, err, reflect.DeepEqual(p, api.Program{}))
	if again, err := parse.Program(show.Program(p)); err == nil && !tree.Same(again, p) {
		t.Errorf("the program of %q is read again as another one", text)
	} else if err != nil && faults.Kind(err) != api.Limit {
		t.Errorf("the program of %q can't be read again: %v", text, err)
	}
	e, err := parse.Expr(text)
	holdError(t, text, err, reflect.DeepEqual(e, api.Expr{}))
	if err != nil {
		return
	}
	if again, err := parse.Expr(show.Expr(e)); err == nil && !tree.SameExpr(again, e) {
		t.Errorf("the expression of %q is read again as another one", text)
	} else if err != nil && faults.Kind(err) != api.Limit {
		t.Errorf("the expression of %q can't be read again: %v", text, err)
	}
}

func holdError(t *testing.T, text string, err error, empty bool) {
	t.Helper()
	kind, at := faults.Tell(err)
	lines := strings.Split(text, "\n")
	switch {
	case err == nil:
	case kind != api.Lexic && kind != api.Syntax && kind != api.Limit:
		t.Errorf("%q: %v", text, err)
	case !empty:
		t.Errorf("%q: a result beside %v", text, err)
	case !reflect.DeepEqual(err, faults.New(kind, at)):
		t.Errorf("%q: the error is %#v", text, err)
	case at.Line < 1 || at.Line > len(lines) || at.Col < 1 || at.Col > len(lines[at.Line-1])+1:
		t.Errorf("%q: an error at %v", text, at)
	}
}

// P1, P6.2: whatever the words of a text, an answer.
func TestAnyWords(t *testing.T) {
	r := rand.New(rand.NewSource(1))
	more := append(pool, "last", "2147483648", "-", "\n", "?", "1x", "(", "(", "merge v ( C ->")
	for range 20000 {
		var l []string
		for range r.Intn(30) {
			l = append(l, more[r.Intn(len(more))])
		}
		holdAnswer(t, strings.Join(l, " "))
	}
}

// P1: texts as long and as deep as they may be, and longer.
func TestLongTexts(t *testing.T) {
	for _, word := range []string{"(", "not ", "- ", "-", "a -> ", "1 fby ", "if ", "if a then ", "merge v (A -> ", "1 + ", "x when A(v) when ", "a = ", "type t = A; ", "type t = A | ", "node f() returns () let tel ", "node f(", "\n", "--\n", "last "} {
		text := strings.Repeat(word, api.MaxText/len(word))
		holdAnswer(t, text)
		holdAnswer(t, strings.Repeat(text, 3))
		for _, behind := range []string{"a", ")", "1;", "\nx"} {
			holdAnswer(t, text[:len(text)-len(word)-2]+behind)
		}
	}
	node := "node f() returns () let "
	for _, word := range []string{"switch c | A do ", "automaton | S do ", "reset do ", "x = f(a); ", "x = 1; ", "(", "x = f(", "reset var last x: int = - "} {
		holdAnswer(t, node+strings.Repeat(word, (api.MaxText-len(node)-4)/len(word))+"tel")
		holdAnswer(t, node+strings.Repeat(word, 70)+"tel")
	}
}

// P2, P6.1: the same text has the same answer, and no two answers share memory.
func TestAnswersAreAlikeAndApart(t *testing.T) {
	for _, s := range append(samples, "node f ( last a : int = 1 ) returns ( ) let x = ; tel", "", "?") {
		first, wrong := parse.Program(s)
		again, err := parse.Program(s)
		if !reflect.DeepEqual(first, again) || !reflect.DeepEqual(wrong, err) {
			t.Errorf("%q has two answers", s)
		}
		for i := range first.Nodes {
			first.Nodes[i].Name = "changed"
			for j := range first.Nodes[i].B.Eqs {
				q := &first.Nodes[i].B.Eqs[j]
				q.Name, q.Lhs = "changed", append(q.Lhs[:0], "changed")
				for k := range q.E.Kids {
					q.E.Kids[k] = api.Expr{}
				}
			}
		}
		if third, _ := parse.Program(s); !reflect.DeepEqual(third, again) {
			t.Errorf("%q has another answer when the first one is changed", s)
		}
	}
}

func FuzzAnswers(f *testing.F) {
	for _, s := range append(samples, sampleExprs...) {
		f.Add(s)
	}
	f.Fuzz(func(t *testing.T, s string) { holdAnswer(t, s) })
}
