package types_test

import (
	"math/rand"
	"slices"
	"strconv"

	"metronome/api"
	"metronome/tree"
)

// maker makes programs at random in which all names are there and all types are right.
type maker struct {
	*rand.Rand
	p api.Program
}

func pick[T any](m *maker, l []T) T { return l[m.Intn(len(l))] }

func (m *maker) program() api.Program {
	m.p = api.Program{}
	ctors := 0
	for i := range 1 + m.Intn(3) {
		t := api.Enum{Name: "t" + strconv.Itoa(i)}
		for range 1 + m.Intn(3) {
			t.Ctors = append(t.Ctors, "C"+strconv.Itoa(ctors))
			ctors++
		}
		m.p.Enums = append(m.p.Enums, t)
	}
	for i := range 2 + m.Intn(3) {
		m.p.Nodes = append(m.p.Nodes, m.node("f"+strconv.Itoa(i)))
	}
	m.Shuffle(len(m.p.Nodes), func(i, j int) { m.p.Nodes[i], m.p.Nodes[j] = m.p.Nodes[j], m.p.Nodes[i] })
	return m.p
}

func (m *maker) node(name string) api.Node {
	n := api.Node{Name: name}
	var around []api.Var
	for range m.Intn(4) {
		around = append(around, m.variable(around))
	}
	ins := len(around)
	for range m.Intn(3) {
		around = append(around, m.variable(around))
	}
	m.clocks(around, around)
	n.Ins, n.Outs = around[:ins:ins], around[ins:]
	n.B = m.block(around, n.Outs, m.Intn(3))
	return n
}

func (m *maker) kind() api.Type {
	return pick(m, []api.Type{boolT, intT, {Kind: api.TEnum, Name: pick(m, m.p.Enums).Name}})
}

// variable is one that isn't visible yet.
func (m *maker) variable(s []api.Var) api.Var {
	v := api.Var{T: m.kind(), Last: m.Intn(3) == 0}
	for v.Name == "" || tree.Find(s, v.Name) >= 0 {
		v.Name = "v" + strconv.Itoa(m.Intn(60))
	}
	if v.Last {
		v.First = m.expr(nil, v.T, 3, false)
	}
	return v
}

// clocks gives clocks to variables, of those that are visible.
func (m *maker) clocks(l, s []api.Var) {
	s = m.samplers(s)
	for i := range l {
		for range m.Intn(3) / 2 * (1 + m.Intn(2)) {
			if len(s) > 0 {
				l[i].Clock = append(l[i].Clock, m.on(s))
			}
		}
	}
}

// samplers are the variables that others can be sampled by.
func (m *maker) samplers(s []api.Var) []api.Var {
	return slices.DeleteFunc(slices.Clone(s), func(v api.Var) bool { return v.T == intT })
}

func (m *maker) on(samplers []api.Var) api.On {
	v := pick(m, samplers)
	return api.On{Ctor: pick(m, tree.Ctors(m.p.Enums, v.T)), Var: v.Name}
}

// block is one that defines what it must, and its own variables.
func (m *maker) block(s, must []api.Var, deep int) api.Block {
	var b api.Block
	s, must = slices.Clone(s), slices.Clone(must)
	for range m.Intn(3) {
		v := m.variable(s)
		s, b.Vars = append(s, v), append(b.Vars, v)
	}
	m.clocks(b.Vars, s)
	must = append(must, b.Vars...)
	m.Shuffle(len(must), func(i, j int) { must[i], must[j] = must[j], must[i] })
	for len(must) > 0 || deep > 0 && m.Intn(4) == 0 {
		var q api.Equation
		q, must = m.eq(s, must, deep)
		b.Eqs = append(b.Eqs, q)
	}
	return b
}

// eq is an equation that defines some of what must be defined, and what then is left of that.
func (m *maker) eq(s, must []api.Var, deep int) (api.Equation, []api.Var) {
	if q, left, ok := m.call(s, must); ok && m.Intn(3) == 0 {
		return q, left
	}
	if len(must) > 0 && (deep == 0 || m.Intn(3) == 0) {
		return api.Equation{Kind: api.QDef, Lhs: []string{must[0].Name}, E: m.expr(s, must[0].T, 4, false)}, must[1:]
	}
	n := min(len(must), m.Intn(4))
	q := api.Equation{Kind: api.QSwitch + byte(m.Intn(3))}
	switch q.Kind {
	case api.QReset:
		q.Arms, q.E = []api.Arm{{B: m.block(s, must[:n], deep-1)}}, m.expr(s, boolT, 3, false)
	case api.QSwitch:
		t := m.kind()
		for t == intT {
			t = m.kind()
		}
		q.E = m.expr(s, t, 3, false)
		q.Arms = m.arms(m.shuffled(t), s, must[:n], deep)
	case api.QAuto:
		states := []string{"S", "T", "U"}[:1+m.Intn(3)]
		q.Arms = m.arms(states, s, must[:n], deep)
		for i := range q.Arms {
			q.Arms[i].Unless = m.ways(states, s)
			q.Arms[i].Until = m.ways(states, append(slices.Clone(s), q.Arms[i].B.Vars...))
		}
	}
	return q, must[n:]
}

// call is a call of a node that was made before, if its outputs can be put where something must be defined.
func (m *maker) call(s, must []api.Var) (api.Equation, []api.Var, bool) {
	if len(m.p.Nodes) == 0 {
		return api.Equation{}, nil, false
	}
	n := pick(m, m.p.Nodes)
	q := api.Equation{Kind: api.QCall, Name: n.Name, Has: m.Intn(2) == 0}
	must = slices.Clone(must)
	for _, v := range n.Outs {
		i := slices.IndexFunc(must, func(w api.Var) bool { return w.T == v.T })
		if i < 0 {
			return api.Equation{}, nil, false
		}
		q.Lhs = append(q.Lhs, must[i].Name)
		must = slices.Delete(must, i, i+1)
	}
	for _, v := range n.Ins {
		q.Args = append(q.Args, m.expr(s, v.T, 3, false))
	}
	if q.Has {
		q.E = m.expr(s, boolT, 3, false)
	}
	return q, must, true
}

func (m *maker) shuffled(t api.Type) []string {
	l := tree.Ctors(m.p.Enums, t)
	m.Shuffle(len(l), func(i, j int) { l[i], l[j] = l[j], l[i] })
	return l
}

// arms are some with names, of which one defines all that it must, and the others all but for what has a last value.
func (m *maker) arms(names []string, s, must []api.Var, deep int) []api.Arm {
	l := make([]api.Arm, len(names))
	whole := m.Intn(len(l))
	for i := range l {
		part := slices.DeleteFunc(slices.Clone(must), func(v api.Var) bool {
			return i != whole && v.Last && m.Intn(2) == 0
		})
		l[i] = api.Arm{Name: names[i], B: m.block(s, part, deep-1)}
	}
	return l
}

func (m *maker) ways(states []string, s []api.Var) []api.Trans {
	l := make([]api.Trans, m.Intn(3))
	for i := range l {
		l[i] = api.Trans{E: m.expr(s, boolT, 3, true), To: pick(m, states), Resume: m.Intn(2) == 0}
	}
	return l
}

// expr is an expression of a type; still: it has no fby, pre and ->.
func (m *maker) expr(s []api.Var, t api.Type, deep int, still bool) api.Expr {
	if deep <= 1 || m.Intn(4) == 0 {
		return m.leaf(s, t)
	}
	kid := func(t api.Type) api.Expr { return m.expr(s, t, deep-1, still) }
	samplers := m.samplers(s)
	switch n := m.Intn(10); {
	case n < 3 && t.Kind != api.TEnum:
		return m.operator(t, kid)
	case n < 5:
		return api.Expr{Kind: api.EIf, Kids: []api.Expr{kid(boolT), kid(t), kid(t)}}
	case n < 6 && !still:
		return api.Expr{Kind: api.EPre, Kids: []api.Expr{kid(t)}}
	case n < 8 && !still:
		return api.Expr{Kind: pick(m, []byte{api.EFby, api.EArrow}), Kids: []api.Expr{kid(t), kid(t)}}
	case n < 9 && len(samplers) > 0:
		return tree.When(m.expr(s, t, deep-1, true), m.on(samplers))
	case len(samplers) > 0:
		v := pick(m, samplers)
		e := api.Expr{Kind: api.EMerge, Name: v.Name, Names: m.shuffled(v.T)}
		for range e.Names {
			e.Kids = append(e.Kids, kid(t))
		}
		return e
	}
	return m.leaf(s, t)
}

// operator is a number or a bool by an operator.
func (m *maker) operator(t api.Type, kid func(api.Type) api.Expr) api.Expr {
	op := pick(m, []byte{api.Neg, api.Add, api.Sub, api.Mul, api.Div, api.Mod})
	of := intT
	if t == boolT {
		op, of = pick(m, []byte{api.Not, api.And, api.Or, api.Xor}), boolT
		switch m.Intn(4) {
		case 0:
			op, of = pick(m, []byte{api.Lt, api.Le, api.Gt, api.Ge}), intT
		case 1:
			op, of = pick(m, []byte{api.Eq, api.Ne}), m.kind()
		}
	}
	if op == api.Not || op == api.Neg {
		return api.Expr{Kind: api.EUn, Op: op, Kids: []api.Expr{kid(of)}}
	}
	return api.Expr{Kind: api.EBin, Op: op, Kids: []api.Expr{kid(of), kid(of)}}
}

// leaf is a constant or a variable of a type.
func (m *maker) leaf(s []api.Var, t api.Type) api.Expr {
	s = slices.DeleteFunc(slices.Clone(s), func(v api.Var) bool { return v.T != t })
	if len(s) > 0 && m.Intn(3) > 0 {
		v := pick(m, s)
		if v.Last && m.Intn(2) == 0 {
			return api.Expr{Kind: api.ELast, Name: v.Name}
		}
		return tree.Name(v.Name)
	}
	if t == intT {
		return tree.Int(int32(m.Intn(9) - 4))
	}
	return tree.Pick(t, pick(m, tree.Ctors(m.p.Enums, t)))
}
