package tree

import "metronome/api"

// each visits the elements of a list.
func each[T any](l []T, visit func(*T)) {
	for i := range l {
		visit(&l[i])
	}
}

// walk visits an expression and all that it contains, each one ahead of its kids.
func walk(e *api.Expr, visit func(*api.Expr)) {
	visit(e)
	for i := range e.Kids {
		walk(&e.Kids[i], visit)
	}
}

// kids visits the expressions that an equation contains directly.
func kids(q *api.Equation, visit func(*api.Expr)) {
	switch q.Kind {
	case api.QDef, api.QSwitch, api.QReset:
		visit(&q.E)
	case api.QCall:
		each(q.Args, visit)
		if q.Has {
			visit(&q.E)
		}
	}
}

// arms visits the arms of an equation. By the document's rules a field that a
// kind of equation doesn't use is ignored: a definition and a call have none.
func arms(q *api.Equation, visit func(*api.Arm)) {
	if q.Kind != api.QDef && q.Kind != api.QCall {
		each(q.Arms, visit)
	}
}

// blockArms visits the arms of all equations of a block itself.
func blockArms(b *api.Block, visit func(*api.Arm)) {
	each(b.Eqs, func(q *api.Equation) { arms(q, visit) })
}

// blockExprs visits the expressions of a block itself and of the transitions
// of its arms, but not those of the blocks of its arms.
func blockExprs(b *api.Block, visit func(*api.Expr)) {
	each(b.Vars, func(v *api.Var) {
		if v.Last {
			visit(&v.First)
		}
	})
	each(b.Eqs, func(q *api.Equation) { kids(q, visit) })
	blockArms(b, func(a *api.Arm) {
		each(a.Unless, func(t *api.Trans) { visit(&t.E) })
		each(a.Until, func(t *api.Trans) { visit(&t.E) })
	})
}

// blockEqs visits all equations of a block, those in its arms too, each one
// ahead of those that it contains.
func blockEqs(b *api.Block, visit func(*api.Equation)) {
	each(b.Eqs, func(q *api.Equation) {
		visit(q)
		arms(q, func(a *api.Arm) { blockEqs(&a.B, visit) })
	})
}
