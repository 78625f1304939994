package tree_test

import (
	"math/rand"

	"metronome/api"
	"metronome/tree"
)

var (
	boolT = api.Type{Kind: api.TBool}
	intT  = api.Type{Kind: api.TInt}
	hueT  = api.Type{Kind: api.TEnum, Name: "hue"}
)

// hues are types, two of them with a constructor B and two of one name.
var hues = []api.Enum{
	{Name: "hue", Ctors: []string{"R", "G", "B"}},
	{Name: "key", Ctors: []string{"A", "B", "C"}},
	{Name: "hue", Ctors: []string{"X"}},
}

// of is an expression of a kind and its kids.
func of(kind byte, kids ...api.Expr) api.Expr { return api.Expr{Kind: kind, Kids: kids} }

func un(op byte, e api.Expr) api.Expr { return api.Expr{Kind: api.EUn, Op: op, Kids: []api.Expr{e}} }

func bin(op byte, a, b api.Expr) api.Expr {
	return api.Expr{Kind: api.EBin, Op: op, Kids: []api.Expr{a, b}}
}

func last(name string) api.Expr { return api.Expr{Kind: api.ELast, Name: name} }

func merge(name string, kids ...api.Expr) api.Expr {
	names := []string{"R", "G", "B"}
	return api.Expr{Kind: api.EMerge, Name: name, Names: names[:len(kids)], Kids: kids}
}

func when(e api.Expr, ctor, name string) api.Expr {
	return tree.When(e, api.On{Ctor: ctor, Var: name})
}

func def(name string, e api.Expr) api.Equation {
	return api.Equation{Kind: api.QDef, Lhs: []string{name}, E: e}
}

func call(node string, lhs []string, args ...api.Expr) api.Equation {
	return api.Equation{Kind: api.QCall, Lhs: lhs, Name: node, Args: args}
}

func callEvery(e api.Expr, q api.Equation) api.Equation {
	q.Has, q.E = true, e
	return q
}

func switches(e api.Expr, arms ...api.Arm) api.Equation {
	return api.Equation{Kind: api.QSwitch, E: e, Arms: arms}
}

func resets(e api.Expr, b api.Block) api.Equation {
	return api.Equation{Kind: api.QReset, E: e, Arms: []api.Arm{{B: b}}}
}

func automaton(states ...api.Arm) api.Equation {
	return api.Equation{Kind: api.QAuto, Arms: states}
}

func arm(name string, b api.Block) api.Arm { return api.Arm{Name: name, B: b} }

func block(vars []api.Var, eqs ...api.Equation) api.Block { return api.Block{Vars: vars, Eqs: eqs} }

func own(names ...string) []api.Var {
	var l []api.Var
	for _, s := range names {
		l = append(l, api.Var{Name: s, T: intT})
	}
	return l
}

// maker makes well-formed expressions and blocks at random.
type maker struct{ *rand.Rand }

func (m maker) name() string { return string(rune('a' + m.Intn(6))) }

func (m maker) kids(n, deep int) []api.Expr {
	l := make([]api.Expr, n)
	for i := range l {
		l[i] = m.expr(deep - 1)
	}
	return l
}

func (m maker) expr(deep int) api.Expr {
	if deep <= 1 {
		return [...]api.Expr{tree.Int(int32(m.Intn(9) - 4)), tree.Bool(true), tree.Ctor("R"), tree.Name(m.name()), last(m.name())}[m.Intn(5)]
	}
	switch kind := api.EUn + byte(m.Intn(8)); kind {
	case api.EUn:
		return un(api.Neg, m.expr(deep-1))
	case api.EBin:
		return api.Expr{Kind: kind, Op: api.Add + byte(m.Intn(14)), Kids: m.kids(2, deep)}
	case api.EIf:
		return of(kind, m.kids(3, deep)...)
	case api.EFby, api.EArrow:
		return of(kind, m.kids(2, deep)...)
	case api.EPre:
		return of(kind, m.expr(deep-1))
	case api.EWhen:
		return when(m.expr(deep-1), "R", m.name())
	}
	return merge(m.name(), m.kids(1+m.Intn(3), deep)...)
}

func (m maker) ways() []api.Trans {
	l := make([]api.Trans, m.Intn(3))
	for i := range l {
		l[i] = api.Trans{E: m.expr(1 + m.Intn(4)), To: "S", Resume: m.Intn(2) == 0}
	}
	return l
}

func (m maker) arms(n, deep int) []api.Arm {
	l := make([]api.Arm, n)
	for i := range l {
		l[i] = api.Arm{Name: "S", B: m.block(deep - 1)}
	}
	return l
}

func (m maker) eq(deep int) api.Equation {
	kind := api.QDef + byte(m.Intn(2))
	if deep > 1 {
		kind = api.QDef + byte(m.Intn(5))
	}
	q := api.Equation{Kind: kind}
	switch kind {
	case api.QDef:
		return def(m.name(), m.expr(1+m.Intn(4)))
	case api.QCall:
		q = call(m.name(), []string{m.name(), m.name()}, m.kids(m.Intn(3), 4)...)
		if m.Intn(2) == 0 {
			q = callEvery(m.expr(2), q)
		}
	case api.QSwitch:
		q.E, q.Arms = m.expr(2), m.arms(m.Intn(3), deep)
	case api.QAuto:
		q.Arms = m.arms(1+m.Intn(3), deep)
		for i := range q.Arms {
			q.Arms[i].Unless, q.Arms[i].Until = m.ways(), m.ways()
		}
	case api.QReset:
		q.E, q.Arms = m.expr(2), m.arms(1, deep)
	}
	return q
}

func (m maker) block(deep int) api.Block {
	var b api.Block
	for range m.Intn(3) {
		v := api.Var{Name: m.name(), T: hueT, Last: m.Intn(2) == 0}
		if v.Last {
			v.First = m.expr(1 + m.Intn(3))
		}
		b.Vars = append(b.Vars, v)
	}
	for range m.Intn(4) {
		b.Eqs = append(b.Eqs, m.eq(deep))
	}
	return b
}
