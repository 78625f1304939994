package clocks

import "metronome/api"

// expr checks that an expression is valid on a clock, itself ahead of its kids.
func (c *checker) expr(e *api.Expr, ck *clock) {
	switch e.Kind {
	case api.EVar, api.ELast:
		c.must(c.on(e.Name, ck), e.At)
	case api.EWhen:
		c.when(e, ck)
	case api.EMerge:
		c.merge(e, ck)
	default:
		c.exprs(e.Kids, ck)
	}
}

func (c *checker) exprs(l []api.Expr, ck *clock) {
	for i := range l {
		c.expr(&l[i], ck)
	}
}

// when checks what is sampled, which is valid on the clock without the sampling.
func (c *checker) when(e *api.Expr, ck *clock) {
	if ck == nil || ck.on != sampling(e, 0) || !c.on(e.Name, ck.rest) {
		c.must(false, e.At)
		return
	}
	c.exprs(e.Kids, ck.rest)
}

// merge checks what is merged, each kid on the clock with its own sampling.
func (c *checker) merge(e *api.Expr, ck *clock) {
	c.must(c.on(e.Name, ck), e.At)
	for i := range e.Kids {
		c.expr(&e.Kids[i], &clock{on: sampling(e, i), rest: ck})
	}
}

// sampling is what an EWhen samples by, or an EMerge its kid i; one that is none, if there is no constructor for it.
func sampling(e *api.Expr, i int) api.On {
	if i >= len(e.Names) {
		return api.On{}
	}
	return api.On{Ctor: e.Names[i], Var: e.Name}
}
