package clocks_test

import (
	"math/rand"
	"slices"
	"strconv"

	"metronome/api"
	"metronome/tree"
)

var (
	boolT = api.Type{Kind: api.TBool}
	intT  = api.Type{Kind: api.TInt}
	tT    = api.Type{Kind: api.TEnum, Name: "t"}
	enums = []api.Enum{{Name: "t", Ctors: []string{"A", "B", "C"}}}
)

// maker makes programs at random in which all names, types and clocks are right.
type maker struct {
	*rand.Rand
	p    api.Program
	made int // variables of the node so far
}

func pick[T any](m *maker, l []T) T { return l[m.Intn(len(l))] }

func (m *maker) program() api.Program {
	m.p = api.Program{Enums: enums}
	for i := range 2 + m.Intn(3) {
		m.p.Nodes = append(m.p.Nodes, m.node("f"+strconv.Itoa(i)))
	}
	return m.p
}

func (m *maker) node(name string) api.Node {
	m.made = 0
	n := api.Node{Name: name, Ins: m.variables(1+m.Intn(3), nil), Outs: m.variables(m.Intn(3), nil)}
	n.B = m.block(slices.Concat(n.Ins, n.Outs), n.Outs, 2)
	return n
}

func (m *maker) kind() api.Type { return pick(m, []api.Type{boolT, boolT, intT, tT}) }

// variables are some, each on a clock; sampled are variables that may sample them, as may those ahead of them: none are, where there are none.
func (m *maker) variables(n int, sampled []api.Var) []api.Var {
	var l []api.Var
	for range n {
		v := api.Var{Name: "v" + strconv.Itoa(m.made), T: m.kind(), Last: m.Intn(3) == 0}
		m.made++
		if v.Last {
			v.First = m.leaf(nil, v.T, nil)
		}
		for len(sampled) > 0 && len(v.Clock) < 3 && m.Intn(2) == 0 {
			l := samplers(slices.Concat(sampled, l), v.Clock)
			if len(l) == 0 {
				break
			}
			v.Clock = append(slices.Clip(v.Clock), m.on(l))
		}
		l = append(l, v)
	}
	m.Shuffle(len(l), func(i, j int) { l[i], l[j] = l[j], l[i] })
	return l
}

// samplers are the variables by which something on a clock can be sampled.
func samplers(s []api.Var, ck []api.On) []api.Var {
	return slices.DeleteFunc(on(s, ck), func(v api.Var) bool { return v.T == intT })
}

// on are the variables that have a clock.
func on(s []api.Var, ck []api.On) []api.Var {
	return slices.DeleteFunc(slices.Clone(s), func(v api.Var) bool { return !slices.Equal(v.Clock, ck) })
}

func (m *maker) on(samplers []api.Var) api.On {
	v := pick(m, samplers)
	return api.On{Ctor: pick(m, tree.Ctors(enums, v.T)), Var: v.Name}
}

// block is one that defines what it must, and its own variables. What it can read of those around it is on its base clock.
func (m *maker) block(s, must []api.Var, deep int) api.Block {
	made := m.made
	b := api.Block{Vars: m.variables(m.Intn(2+deep), s)}
	s, must = slices.Concat(s, b.Vars), slices.Concat(must, b.Vars)
	m.Shuffle(len(must), func(i, j int) { must[i], must[j] = must[j], must[i] })
	for len(must) > 0 || deep > 0 && m.Intn(3) == 0 {
		var q api.Equation
		q, must = m.eq(s, must, deep)
		b.Eqs = append(b.Eqs, q)
	}
	if m.Intn(2) == 0 {
		m.made = made // so that a later block has variables of the same names
	}
	return b
}

// eq is an equation that defines some of what must be defined, and what then is left of that.
func (m *maker) eq(s, must []api.Var, deep int) (api.Equation, []api.Var) {
	if q, left, ok := m.call(s, must); ok && m.Intn(2) == 0 {
		return q, left
	}
	if len(must) > 0 && (deep == 0 || m.Intn(4) > 0) {
		v := must[0]
		return api.Equation{Kind: api.QDef, Lhs: []string{v.Name}, E: m.expr(s, v.T, v.Clock, 3, false)}, must[1:]
	}
	inner := on(must, nil)
	inner = inner[:min(len(inner), m.Intn(4))]
	left := slices.DeleteFunc(slices.Clone(must), func(v api.Var) bool { return tree.Find(inner, v.Name) >= 0 })
	return m.nest(s, inner, deep), left
}

// nest is an equation with blocks.
func (m *maker) nest(s, must []api.Var, deep int) api.Equation {
	q := api.Equation{Kind: api.QSwitch + byte(m.Intn(3))}
	open := on(s, nil)
	names := []string{""}
	switch q.Kind {
	case api.QReset:
		q.E = m.expr(s, boolT, nil, 3, false)
	case api.QSwitch:
		t := pick(m, []api.Type{boolT, tT})
		q.E, names = m.expr(s, t, nil, 3, false), tree.Ctors(enums, t)
	case api.QAuto:
		names = []string{"S", "T", "U"}[:1+m.Intn(3)]
	}
	for _, name := range names {
		a := api.Arm{Name: name, B: m.block(open, must, deep-1)}
		if q.Kind == api.QAuto {
			a.Unless = m.ways(names, s)
			a.Until = m.ways(names, slices.Concat(open, a.B.Vars))
		}
		q.Arms = append(q.Arms, a)
	}
	return q
}

// call is a call of a node that was made before, if its outputs can be put where something must be defined, all on one clock.
func (m *maker) call(s, must []api.Var) (api.Equation, []api.Var, bool) {
	if len(m.p.Nodes) == 0 {
		return api.Equation{}, nil, false
	}
	n := pick(m, m.p.Nodes)
	q := api.Equation{Kind: api.QCall, Name: n.Name, Has: m.Intn(2) == 0}
	must = slices.Clone(must)
	var ck []api.On
	for i, v := range n.Outs {
		i := slices.IndexFunc(must, func(w api.Var) bool { return w.T == v.T && (i == 0 || slices.Equal(w.Clock, ck)) })
		if i < 0 {
			return api.Equation{}, nil, false
		}
		ck = must[i].Clock
		q.Lhs = append(q.Lhs, must[i].Name)
		must = slices.Delete(must, i, i+1)
	}
	for _, v := range n.Ins {
		q.Args = append(q.Args, m.expr(s, v.T, ck, 3, false))
	}
	if q.Has {
		q.E = m.expr(s, boolT, ck, 3, false)
	}
	return q, must, true
}

func (m *maker) ways(states []string, s []api.Var) []api.Trans {
	l := make([]api.Trans, m.Intn(3))
	for i := range l {
		l[i] = api.Trans{E: m.expr(s, boolT, nil, 3, true), To: pick(m, states), Resume: m.Intn(2) == 0}
	}
	return l
}

// expr is an expression of a type on a clock; still: it has no fby, pre and ->.
func (m *maker) expr(s []api.Var, t api.Type, ck []api.On, deep int, still bool) api.Expr {
	kid := func(t api.Type) api.Expr { return m.expr(s, t, ck, deep-1, still) }
	n, by := len(ck)-1, samplers(s, ck)
	switch way := m.Intn(12); {
	case deep <= 1 || way == 0:
	case way < 3 && t == intT:
		return api.Expr{Kind: api.EBin, Op: api.Add, Kids: []api.Expr{kid(t), kid(t)}}
	case way < 3 && t == boolT:
		of := m.kind()
		return api.Expr{Kind: api.EBin, Op: api.Eq, Kids: []api.Expr{kid(of), kid(of)}}
	case way == 3 && t == boolT:
		return api.Expr{Kind: api.EUn, Op: api.Not, Kids: []api.Expr{kid(t)}}
	case way == 4:
		return api.Expr{Kind: api.EIf, Kids: []api.Expr{kid(boolT), kid(t), kid(t)}}
	case way == 5 && !still:
		return api.Expr{Kind: api.EPre, Kids: []api.Expr{kid(t)}}
	case way == 6 && !still:
		return api.Expr{Kind: pick(m, []byte{api.EFby, api.EArrow}), Kids: []api.Expr{kid(t), kid(t)}}
	case way < 10 && n >= 0:
		return tree.When(m.expr(s, t, ck[:n], deep-1, true), ck[n])
	case way < 12 && len(by) > 0:
		v := pick(m, by)
		e := api.Expr{Kind: api.EMerge, Name: v.Name, Names: tree.Ctors(enums, v.T)}
		m.Shuffle(len(e.Names), func(i, j int) { e.Names[i], e.Names[j] = e.Names[j], e.Names[i] })
		for _, ctor := range e.Names {
			inner := slices.Concat(ck, []api.On{{Ctor: ctor, Var: v.Name}})
			e.Kids = append(e.Kids, m.expr(s, t, inner, deep-1, still))
		}
		return e
	}
	return m.leaf(s, t, ck)
}

// leaf is a constant, or a variable of a type on a clock.
func (m *maker) leaf(s []api.Var, t api.Type, ck []api.On) api.Expr {
	s = slices.DeleteFunc(on(s, ck), func(v api.Var) bool { return v.T != t })
	if len(s) > 0 && m.Intn(6) > 0 {
		v := pick(m, s)
		if v.Last && m.Intn(2) == 0 {
			return api.Expr{Kind: api.ELast, Name: v.Name}
		}
		return tree.Name(v.Name)
	}
	if t == intT {
		return tree.Int(int32(m.Intn(9) - 4))
	}
	return tree.Pick(t, pick(m, tree.Ctors(enums, t)))
}
