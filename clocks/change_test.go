package clocks_test

import (
	"reflect"
	"slices"

	"metronome/api"
	"metronome/tree"
	"metronome/types"
)

// parts visits all that a value consists of, each part ahead of those within it.
func parts(v reflect.Value, visit func(reflect.Value)) {
	visit(v)
	switch v.Kind() {
	case reflect.Struct:
		for i := range v.NumField() {
			parts(v.Field(i), visit)
		}
	case reflect.Slice:
		for i := range v.Len() {
			parts(v.Index(i), visit)
		}
	}
}

// all are the parts of one type that a value consists of.
func all[P, T any](x *T) []*P {
	var l []*P
	parts(reflect.ValueOf(x).Elem(), func(v reflect.Value) {
		if v.Type() == reflect.TypeFor[P]() {
			l = append(l, v.Addr().Interface().(*P))
		}
	})
	return l
}

// some are those parts of which something holds.
func some[P, T any](x *T, holds func(*P) bool) []*P {
	return slices.DeleteFunc(all[P](x), func(p *P) bool { return !holds(p) })
}

// place gives each part of a value a position of its own.
func place[T any](x *T) {
	for i, at := range all[api.Pos](x) {
		*at = api.Pos{Line: 1 + i, Col: i%7 + 1}
	}
}

// copied is a copy of a value that shares nothing with it. Its lists have room behind them: what is put there comes into no list, but the copy isn't the same any more.
func copied[T any](x T) T {
	parts(reflect.ValueOf(&x).Elem(), func(v reflect.Value) {
		if v.Kind() == reflect.Slice && !v.IsNil() {
			l := reflect.MakeSlice(v.Type(), v.Len(), v.Len()+1)
			reflect.Copy(l, v)
			v.Set(l)
		}
	})
	return x
}

// change changes one thing in a node, whose names and types may then be wrong.
func (m *maker) change(n *api.Node) {
	switch m.Intn(8) {
	case 0:
		m.changeClock(pick(m, all[api.Var](n)), n)
	case 1:
		if l := some(n, func(q *api.Equation) bool { return q.Kind == api.QCall && len(q.Lhs) > 0 }); len(l) > 0 {
			name := pick(m, pick(m, l).Lhs)
			m.changeClock(some(n, func(v *api.Var) bool { return v.Name == name })[0], n)
		}
	case 2:
		if l := defined(n); len(l) > 0 {
			a, b := pick(m, l), pick(m, l)
			*a, *b = *b, *a
		}
	case 3:
		if l := some(n, func(e *api.Expr) bool { return e.Kind == api.EVar || e.Kind == api.ELast }); len(l) > 0 {
			e := pick(m, l)
			e.Name = m.like(*e, n, e.Kind == api.ELast).Name
		}
	case 4:
		if l := some(n, func(e *api.Expr) bool { return e.Kind == api.EWhen }); len(l) > 0 {
			m.changeWhen(pick(m, l), n)
		}
	default:
		m.put(n)
	}
}

// defined are the names of the variables that the equations of a node define.
func defined(n *api.Node) []*string {
	var l []*string
	for _, q := range all[api.Equation](n) {
		for i := range q.Lhs {
			l = append(l, &q.Lhs[i])
		}
	}
	return l
}

// anyOf is a variable of a node, more often one of its own block that has a clock: blocks within can't read it.
func (m *maker) anyOf(n *api.Node) api.Var {
	l := some(&n.B.Vars, func(v *api.Var) bool { return len(v.Clock) > 0 })
	if len(l) == 0 || m.Intn(3) == 0 {
		l = all[api.Var](n)
	}
	return *pick(m, l)
}

// like is a variable that may stand where an expression does.
func (m *maker) like(e api.Expr, n *api.Node, last bool) api.Var {
	var env []api.Var
	for _, v := range all[api.Var](n) {
		env = append(env, *v)
	}
	of, _ := types.Expr(m.p, env, e)
	v := m.anyOf(n)
	for range 10 {
		if v.T == of && (v.Last || !last) {
			break
		}
		v = m.anyOf(n)
	}
	return v
}

// anyOn is a sampling by a variable of a node.
func (m *maker) anyOn(n *api.Node) api.On {
	l := some(n, func(v *api.Var) bool { return v.T != intT })
	if len(l) == 0 {
		return api.On{Ctor: "A", Var: m.anyOf(n).Name}
	}
	return m.on([]api.Var{*pick(m, l)})
}

// changeClock drops samplings, has one more, has them in another order, or takes the clock of another variable.
func (m *maker) changeClock(v *api.Var, n *api.Node) {
	i := m.Intn(1 + len(v.Clock))
	switch m.Intn(5) {
	case 0:
		v.Clock = slices.Clone(m.anyOf(n).Clock)
	case 1:
		slices.Reverse(v.Clock)
	case 2:
		v.Clock = v.Clock[:i]
	default:
		v.Clock = slices.Insert(v.Clock, i, m.anyOn(n))
	}
}

// changeWhen drops a sampling, or samples by another constructor or variable.
func (m *maker) changeWhen(e *api.Expr, n *api.Node) {
	switch m.Intn(3) {
	case 0:
		*e = e.Kids[0]
	case 1:
		e.Names[0] = pick(m, []string{"A", "B", "C", "true", "false"})
	default:
		e.Name = m.anyOf(n).Name
	}
}

// put puts a variable, a last value, something sampled or something merged at the place of an expression that isn't within another one, each sort of place as often as others.
func (m *maker) put(n *api.Node) {
	places := used(n)
	if len(places) == 0 {
		return
	}
	e := pick(m, pick(m, places))
	switch kind := pick(m, []byte{api.EVar, api.ELast, api.EWhen, api.EMerge}); {
	case kind == api.EVar || kind == api.ELast:
		*e = api.Expr{Kind: kind, Name: m.like(*e, n, kind == api.ELast).Name}
	case kind == api.EWhen:
		*e = tree.When(*e, m.anyOn(n))
	default:
		v := m.anyOf(n)
		names := tree.Ctors(enums, v.T)
		merge := api.Expr{Kind: api.EMerge, Name: v.Name, Names: names}
		for range names {
			merge.Kids = append(merge.Kids, copied(*e))
		}
		*e = merge
	}
}

// used are the expressions of a node that are not within others, those of each sort of place in a list of their own.
func used(n *api.Node) [][]*api.Expr {
	const argument, unless, until = api.QAuto, 6, 7 // the others are those of the kinds of equations
	l := make([][]*api.Expr, 8)
	for _, q := range all[api.Equation](n) {
		if q.Kind != api.QAuto && (q.Kind != api.QCall || q.Has) {
			l[q.Kind] = append(l[q.Kind], &q.E)
		}
		for i := range q.Args {
			l[argument] = append(l[argument], &q.Args[i])
		}
	}
	for _, a := range all[api.Arm](n) {
		for i := range a.Unless {
			l[unless] = append(l[unless], &a.Unless[i].E)
		}
		for i := range a.Until {
			l[until] = append(l[until], &a.Until[i].E)
		}
	}
	return slices.DeleteFunc(l, func(l []*api.Expr) bool { return len(l) == 0 })
}
