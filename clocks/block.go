package clocks

import "metronome/api"

func (c *checker) node(n *api.Node) {
	c.vars = map[string]variable{}
	c.see(n.Ins)
	c.see(n.Outs)
	c.unsampled(n.Ins)
	c.unsampled(n.Outs)
	c.block(&n.B, nil)
}

// unsampled checks that inputs, or outputs, are always there.
func (c *checker) unsampled(l []api.Var) {
	for i := range l {
		c.must(len(l[i].Clock) == 0, l[i].At)
	}
}

// block checks a block, and then the transitions that see its variables.
func (c *checker) block(b *api.Block, until []api.Trans) {
	c.see(b.Vars)
	c.clocks(b.Vars)
	for i := range b.Eqs {
		c.eq(&b.Eqs[i])
	}
	c.ways(until)
	for i := range b.Vars {
		delete(c.vars, b.Vars[i].Name)
	}
}

// clocks checks the clocks of variables: what samples one has the clock ahead of that sampling.
func (c *checker) clocks(l []api.Var) {
	for i := range l {
		var ahead *clock
		for _, on := range l[i].Clock {
			c.must(c.on(on.Var, ahead), l[i].At)
			ahead = &clock{on: on, rest: ahead}
		}
	}
}

// within checks a block that stands in the current one.
func (c *checker) within(b *api.Block, until []api.Trans) {
	c.depth++
	c.block(b, until)
	c.depth--
}

// eq checks an equation. That what a reset, a switch or an automaton defines has the base clock needs no look: the equation within that defines it was held to read it there.
func (c *checker) eq(q *api.Equation) {
	switch q.Kind {
	case api.QDef:
		c.expr(&q.E, c.left(q))
	case api.QCall:
		ck := c.left(q)
		c.exprs(q.Args, ck)
		if q.Has {
			c.expr(&q.E, ck)
		}
	case api.QReset:
		c.arms(q.Arms)
		c.expr(&q.E, nil)
	case api.QSwitch:
		c.expr(&q.E, nil)
		c.arms(q.Arms)
	case api.QAuto:
		for i := range q.Arms {
			c.ways(q.Arms[i].Unless)
			c.within(&q.Arms[i].B, q.Arms[i].Until)
		}
	}
}

// left is the one clock of the variables that an equation has on its left; the base clock, if there are none.
func (c *checker) left(q *api.Equation) *clock {
	var common *clock
	for i, name := range q.Lhs {
		ck, readable := c.clock(name)
		if i == 0 {
			common = ck
		}
		c.must(readable && ck.same(common), q.At)
	}
	return common
}

// arms checks the blocks of a switch, or the one of a reset.
func (c *checker) arms(l []api.Arm) {
	for i := range l {
		c.within(&l[i].B, nil)
	}
}

// ways checks transitions, which are asked for on the base clock.
func (c *checker) ways(l []api.Trans) {
	for i := range l {
		c.expr(&l[i].E, nil)
	}
}
