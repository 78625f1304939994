package types_test

import (
	"reflect"
	"slices"

	"metronome/api"
	"metronome/tree"
)

// parts visits all that a value consists of, each part ahead of those within it.
func parts(v reflect.Value, visit func(reflect.Value)) {
	visit(v)
	switch v.Kind() {
	case reflect.Struct:
		for i := range v.NumField() {
			parts(v.Field(i), visit)
		}
	case reflect.Slice:
		for i := range v.Len() {
			parts(v.Index(i), visit)
		}
	}
}

// all are the parts of one type that a value consists of.
func all[P, T any](x *T) []*P {
	var l []*P
	parts(reflect.ValueOf(x).Elem(), func(v reflect.Value) {
		if v.Type() == reflect.TypeFor[P]() {
			l = append(l, v.Addr().Interface().(*P))
		}
	})
	return l
}

// place gives each part of a value a position of its own.
func place[T any](x *T) {
	for i, at := range all[api.Pos](x) {
		*at = api.Pos{Line: 1 + i, Col: i%7 + 1}
	}
}

// copied is a copy of a value that shares nothing with it.
func copied[T any](x T) T {
	parts(reflect.ValueOf(&x).Elem(), func(v reflect.Value) {
		if v.Kind() == reflect.Slice && !v.IsNil() {
			l := reflect.MakeSlice(v.Type(), v.Len(), v.Len())
			reflect.Copy(l, v)
			v.Set(l)
		}
	})
	return x
}

// change changes one thing in a program, which may then have names that aren't there.
func (m *maker) change(p *api.Program) {
	switch m.Intn(9) {
	case 0:
		*pick(m, all[string](p)) = *pick(m, all[string](p))
	case 1:
		if l := all[api.Type](p); len(l) > 0 {
			*pick(m, l) = m.kind()
		}
	case 2:
		m.changeList(p)
	case 3:
		calls := slices.DeleteFunc(all[api.Equation](p), func(q *api.Equation) bool { return q.Kind != api.QCall })
		if len(calls) > 0 {
			pick(m, calls).Name = pick(m, p.Nodes).Name
		}
	default:
		if l := used(p); len(l) > 0 {
			m.changeExpr(pick(m, pick(m, l)), pick(m, pick(m, l)))
		}
	}
}

// used are the expressions of a program that are not within others, those of each sort of place in a list of their own.
func used(p *api.Program) [][]*api.Expr {
	const first, argument, unless, until = 0, api.QAuto, 6, 7 // the others are those of the kinds of equations
	l := make([][]*api.Expr, 8)
	for _, v := range all[api.Var](p) {
		if v.Last {
			l[first] = append(l[first], &v.First)
		}
	}
	for _, q := range all[api.Equation](p) {
		if q.Kind != api.QAuto && (q.Kind != api.QCall || q.Has) {
			l[q.Kind] = append(l[q.Kind], &q.E)
		}
		for i := range q.Args {
			l[argument] = append(l[argument], &q.Args[i])
		}
	}
	for _, a := range all[api.Arm](p) {
		for i := range a.Unless {
			l[unless] = append(l[unless], &a.Unless[i].E)
		}
		for i := range a.Until {
			l[until] = append(l[until], &a.Until[i].E)
		}
	}
	return slices.DeleteFunc(l, func(l []*api.Expr) bool { return len(l) == 0 })
}

// changeList drops one of a list, or has it twice, or has another one in it.
func (m *maker) changeList(p *api.Program) {
	switch q := pick(m, append(all[api.Equation](p), &api.Equation{})); {
	case q.Kind == api.QCall && m.Intn(2) == 0:
		changeOne(m, &q.Args, m.leaf(nil, m.kind()))
	case q.Kind == api.QCall:
		changeOne(m, &q.Lhs, *pick(m, all[string](p)))
	case q.Kind == api.QSwitch:
		changeOne(m, &q.Arms, api.Arm{Name: *pick(m, all[string](p)), B: copied(q.Arms[0].B)})
	default:
		if l := all[api.Var](p); len(l) > 0 {
			changeOne(m, &pick(m, l).Clock, api.On{Ctor: "true", Var: pick(m, l).Name})
		}
	}
}

func changeOne[T any](m *maker, l *[]T, other T) {
	switch i := m.Intn(1 + len(*l)); {
	case i == len(*l):
		*l = append(*l, other)
	case m.Intn(2) == 0:
		*l = append((*l)[:i], (*l)[i+1:]...)
	default:
		*l = append(*l, copied((*l)[i]))
	}
}

// changeExpr changes a part of an expression, maybe into a copy of a part of another one.
func (m *maker) changeExpr(whole, other *api.Expr) {
	e := pick(m, all[api.Expr](whole))
	switch m.Intn(7) {
	case 0, 1:
		*e = copied(*pick(m, all[api.Expr](other)))
	case 2:
		l := []api.Expr{m.leaf(nil, m.kind()), *e}
		*e = pick(m, []api.Expr{{Kind: api.EPre, Kids: l[1:]}, {Kind: api.EFby, Kids: l}, {Kind: api.EArrow, Kids: l}})
	case 3:
		*e = m.leaf(nil, m.kind())
	case 4:
		if l := slices.DeleteFunc(all[api.Expr](whole), func(e *api.Expr) bool { return e.Op == 0 }); len(l) > 0 {
			pick(m, l).Op = api.Not + byte(m.Intn(int(api.Ge)))
		}
	default:
		if l := slices.DeleteFunc(all[api.Expr](whole), func(e *api.Expr) bool { return len(e.Names) == 0 }); len(l) > 0 {
			m.changeSampled(pick(m, l))
		}
	}
}

// changeSampled changes what is sampled, or what is merged: drops one, or has it twice, or changes a constructor.
func (m *maker) changeSampled(e *api.Expr) {
	i := m.Intn(len(e.Names))
	switch n := m.Intn(4); {
	case n == 0 && e.Kind == api.EMerge && len(e.Names) > 1:
		e.Names, e.Kids = append(e.Names[:i], e.Names[i+1:]...), append(e.Kids[:i], e.Kids[i+1:]...)
	case n == 1 && e.Kind == api.EMerge:
		e.Names, e.Kids = append(e.Names, e.Names[i]), append(e.Kids, copied(e.Kids[i]))
	case n == 2:
		e.Kids[i] = api.Expr{Kind: api.EPre, Kids: []api.Expr{e.Kids[i]}}
	default:
		e.Names[i] = pick(m, append(tree.Ctors(m.p.Enums, m.kind()), "true"))
	}
}

// wellFormed: has each expression the kids that it needs, each definition one variable, and each reset one arm?
func wellFormed(p api.Program) bool {
	for _, q := range all[api.Equation](&p) {
		if q.Kind < api.QDef || q.Kind > api.QReset || q.Kind == api.QDef && len(q.Lhs) != 1 || q.Kind == api.QReset && len(q.Arms) != 1 {
			return false
		}
	}
	for _, e := range all[api.Expr](&p) {
		switch e.Kind {
		case api.EUn, api.EPre, api.EWhen:
			if len(e.Kids) != 1 || e.Kind == api.EWhen && len(e.Names) != 1 {
				return false
			}
		case api.EBin, api.EFby, api.EArrow:
			if len(e.Kids) != 2 {
				return false
			}
		}
	}
	return true
}
