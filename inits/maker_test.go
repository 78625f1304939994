package inits_test

import (
	"math/rand"
	"reflect"
	"slices"
	"strconv"

	"metronome/api"
	"metronome/tree"
)

// maker makes programs at random in which names, types and clocks are right, and nothing that is late stands where it must not. All variables are bool.
type maker struct {
	*rand.Rand
	p    api.Program
	made int // variables of the node so far
}

// variable is one that may be late, or must not.
type variable struct {
	api.Var
	late bool
}

func pick[T any](m *maker, l []T) T { return l[m.Intn(len(l))] }

func (m *maker) program() api.Program {
	m.p = api.Program{}
	for i := range 2 + m.Intn(2) {
		m.p.Nodes = append(m.p.Nodes, m.node("f"+strconv.Itoa(i)))
	}
	return m.p
}

func (m *maker) node(name string) api.Node {
	m.made = 0
	ins, outs := m.variables(nil, 1+m.Intn(3), false), m.variables(nil, m.Intn(3), false)
	b, _ := m.block(slices.Concat(ins, outs), outs, 2)
	return api.Node{Name: name, Ins: vars(ins), Outs: vars(outs), B: b}
}

func vars(l []variable) []api.Var {
	var vs []api.Var
	for _, v := range l {
		vs = append(vs, v.Var)
	}
	return vs
}

// variables are some; those of a block may be late, and sampled by others that are seen there.
func (m *maker) variables(s []variable, n int, block bool) []variable {
	var l []variable
	for range n {
		v := variable{Var: api.Var{Name: "v" + strconv.Itoa(m.made), T: api.Type{Kind: api.TBool}}, late: block && m.Intn(2) == 0}
		m.made++
		if v.Last = !v.late && m.Intn(3) == 0; v.Last {
			v.First = tree.Bool(m.Intn(2) == 0)
		}
		if base := on(slices.Concat(s, l), nil); block && len(base) > 0 && m.Intn(4) == 0 {
			v.Clock = []api.On{m.on(base)}
		}
		l = append(l, v)
	}
	return l
}

// on are the variables on a clock.
func on(s []variable, ck []api.On) []variable {
	return slices.DeleteFunc(slices.Clone(s), func(v variable) bool { return !slices.Equal(v.Clock, ck) })
}

// known are those that are not late.
func known(s []variable) []variable {
	return slices.DeleteFunc(slices.Clone(s), func(v variable) bool { return v.late })
}

func (m *maker) on(s []variable) api.On {
	return api.On{Ctor: pick(m, []string{"false", "true"}), Var: pick(m, s).Name}
}

// block is one that sees s of the variables around it, and defines what it must, and its own variables, which are returned too.
func (m *maker) block(s, must []variable, deep int) (api.Block, []variable) {
	made := m.made
	mine := m.variables(s, m.Intn(3+deep), true)
	s, must = slices.Concat(s, mine), slices.Concat(known(must), mine)
	m.Shuffle(len(must), func(i, j int) { must[i], must[j] = must[j], must[i] })
	b := api.Block{Vars: vars(mine)}
	for len(must) > 0 || deep > 0 && m.Intn(3) == 0 {
		var q api.Equation
		q, must = m.eq(s, must, deep)
		b.Eqs = append(b.Eqs, q)
	}
	if m.Intn(2) == 0 {
		m.made = made // so that a later block has variables of the same names
	}
	return b, mine
}

// eq is an equation that defines some of what must be defined, and what then is left of that.
func (m *maker) eq(s, must []variable, deep int) (api.Equation, []variable) {
	if q, left, ok := m.call(s, must); ok && m.Intn(2) == 0 {
		return q, left
	}
	if len(must) > 0 && (deep == 0 || m.Intn(4) > 0) {
		v := must[0]
		return api.Equation{Kind: api.QDef, Lhs: []string{v.Name}, E: m.expr(s, v.Clock, 4, false, v.late)}, must[1:]
	}
	inner := known(on(must, nil))
	inner = inner[:min(len(inner), m.Intn(3))]
	left := slices.DeleteFunc(slices.Clone(must), func(v variable) bool { return tree.Find(vars(inner), v.Name) >= 0 })
	return m.nest(on(s, nil), inner, deep), left
}

// nest is an equation with blocks, which see s.
func (m *maker) nest(s, must []variable, deep int) api.Equation {
	q := api.Equation{Kind: api.QSwitch + byte(m.Intn(3))}
	arms := []string{""}
	switch q.Kind {
	case api.QSwitch:
		arms = []string{"true", "false"}
	case api.QAuto:
		arms = []string{"S", "T", "U"}[:1+m.Intn(3)]
	}
	if q.Kind != api.QAuto {
		q.E = m.expr(s, nil, 3, false, false)
	}
	for _, name := range arms {
		b, mine := m.block(s, must, deep-1)
		a := api.Arm{Name: name, B: b}
		if q.Kind == api.QAuto {
			a.Unless = m.ways(arms, s)
			a.Until = m.ways(arms, slices.Concat(s, mine))
		}
		q.Arms = append(q.Arms, a)
	}
	return q
}

func (m *maker) ways(states []string, s []variable) []api.Trans {
	l := make([]api.Trans, m.Intn(3))
	for i := range l {
		l[i] = api.Trans{E: m.expr(s, nil, 3, true, false), To: pick(m, states), Resume: m.Intn(2) == 0}
	}
	return l
}

// call is a call of a node that was made before, if its outputs can be put where something must be defined, all on one clock.
func (m *maker) call(s, must []variable) (api.Equation, []variable, bool) {
	if len(m.p.Nodes) == 0 || len(must) == 0 {
		return api.Equation{}, nil, false
	}
	n, ck := pick(m, m.p.Nodes), must[0].Clock
	q := api.Equation{Kind: api.QCall, Name: n.Name, Has: m.Intn(2) == 0}
	left := slices.Clone(must)
	for range n.Outs {
		i := slices.IndexFunc(left, func(v variable) bool { return slices.Equal(v.Clock, ck) })
		if i < 0 {
			return api.Equation{}, nil, false
		}
		q.Lhs = append(q.Lhs, left[i].Name)
		left = slices.Delete(left, i, i+1)
	}
	if len(q.Lhs) == 0 {
		ck = nil
	}
	for range n.Ins {
		q.Args = append(q.Args, m.expr(s, ck, 3, false, false))
	}
	if q.Has {
		q.E = m.expr(s, ck, 3, false, false)
	}
	return q, left, true
}

// expr is an expression on a clock; still: it has no fby, pre and ->; late: it may be late.
func (m *maker) expr(s []variable, ck []api.On, deep int, still, late bool) api.Expr {
	kid := func(late bool) api.Expr { return m.expr(s, ck, deep-1, still, late) }
	n := len(ck) - 1
	switch way := m.Intn(12); {
	case deep <= 1 || way == 0:
	case way == 1:
		return api.Expr{Kind: api.EUn, Op: api.Not, Kids: []api.Expr{kid(late)}}
	case way == 2:
		return api.Expr{Kind: api.EBin, Op: api.Or, Kids: []api.Expr{kid(late), kid(late)}}
	case way == 3:
		return api.Expr{Kind: api.EIf, Kids: []api.Expr{kid(late), kid(late), kid(late)}}
	case way == 4 && !still:
		return api.Expr{Kind: api.EFby, Kids: []api.Expr{kid(late), kid(false)}}
	case way < 7 && !still && late:
		return api.Expr{Kind: api.EPre, Kids: []api.Expr{kid(false)}}
	case way == 7 && !still:
		return api.Expr{Kind: api.EArrow, Kids: []api.Expr{kid(false), kid(true)}}
	case way < 10 && n >= 0 && slices.ContainsFunc(known(s), func(v variable) bool { return v.Name == ck[n].Var }):
		return tree.When(m.expr(s, ck[:n], deep-1, true, late), ck[n])
	case way < 12 && n < 1:
		if by := known(on(s, ck)); len(by) > 0 {
			return m.merge(s, ck, pick(m, by).Name, deep, still, late)
		}
	}
	return m.leaf(s, ck, late)
}

func (m *maker) merge(s []variable, ck []api.On, by string, deep int, still, late bool) api.Expr {
	e := api.Expr{Kind: api.EMerge, Name: by, Names: []string{"true", "false"}}
	for _, ctor := range e.Names {
		inner := slices.Concat(ck, []api.On{{Ctor: ctor, Var: by}})
		e.Kids = append(e.Kids, m.expr(s, inner, deep-1, still, late))
	}
	return e
}

// leaf is a constant, or a variable on a clock.
func (m *maker) leaf(s []variable, ck []api.On, late bool) api.Expr {
	if s = on(s, ck); !late {
		s = known(s)
	}
	if len(s) == 0 || m.Intn(6) == 0 {
		return tree.Bool(m.Intn(2) == 0)
	}
	v := pick(m, s)
	if v.Last && m.Intn(2) == 0 {
		return api.Expr{Kind: api.ELast, Name: v.Name}
	}
	return tree.Name(v.Name)
}

// parts visits all that a value consists of, each part ahead of those within it.
func parts(v reflect.Value, visit func(reflect.Value)) {
	visit(v)
	switch v.Kind() {
	case reflect.Struct:
		for i := range v.NumField() {
			parts(v.Field(i), visit)
		}
	case reflect.Slice:
		for i := range v.Len() {
			parts(v.Index(i), visit)
		}
	}
}

// some are the parts of one type of which something holds.
func some[P, T any](x *T, holds func(*P) bool) []*P {
	var l []*P
	parts(reflect.ValueOf(x).Elem(), func(v reflect.Value) {
		if v.Type() != reflect.TypeFor[P]() {
			return
		}
		if p := v.Addr().Interface().(*P); holds(p) {
			l = append(l, p)
		}
	})
	return l
}

func all[P, T any](x *T) []*P { return some(x, func(*P) bool { return true }) }

// place gives each part of a value a position of its own.
func place[T any](x *T) {
	for i, at := range all[api.Pos](x) {
		*at = api.Pos{Line: 1 + i, Col: i%7 + 1}
	}
}

// copied is a copy of a value that shares nothing with it. Its lists have room behind them: what is put there comes into no list, but the copy isn't the same any more.
func copied[T any](x T) T {
	parts(reflect.ValueOf(&x).Elem(), func(v reflect.Value) {
		if v.Kind() == reflect.Slice && !v.IsNil() {
			l := reflect.MakeSlice(v.Type(), v.Len(), v.Len()+1)
			reflect.Copy(l, v)
			v.Set(l)
		}
	})
	return x
}
