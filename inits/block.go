package inits

import "metronome/api"

// block checks a block, and then the transitions that see its variables.
func (c *checker) block(b *api.Block, until []api.Trans) {
	own := numbered(b.Vars)
	c.late.find(b, own)
	for i := range b.Vars {
		v := &b.Vars[i]
		c.must(!v.Last || !c.late.has(v.Name), v.At)
	}
	for i := range b.Eqs {
		c.eq(&b.Eqs[i], own)
	}
	c.ways(until)
	for i := range b.Vars {
		delete(c.late, b.Vars[i].Name)
	}
}

// eq checks an equation of a block that has variables of its own.
func (c *checker) eq(q *api.Equation, own numbers) {
	switch q.Kind {
	case api.QDef:
		late := c.interior(&q.E)
		for _, name := range q.Lhs {
			c.must(!late || own.has(name), q.At)
		}
	case api.QCall:
		for i := range q.Args {
			c.defined(&q.Args[i])
		}
		if q.Has {
			c.defined(&q.E)
		}
	case api.QReset:
		c.arms(q.Arms)
		c.defined(&q.E)
	case api.QSwitch:
		c.defined(&q.E)
		c.arms(q.Arms)
	case api.QAuto:
		for i := range q.Arms {
			c.ways(q.Arms[i].Unless)
			c.block(&q.Arms[i].B, q.Arms[i].Until)
		}
	}
}

// arms checks the blocks of a switch, or the one of a reset.
func (c *checker) arms(l []api.Arm) {
	for i := range l {
		c.block(&l[i].B, nil)
	}
}

// ways checks transitions, which must be known at the first instant.
func (c *checker) ways(l []api.Trans) {
	for i := range l {
		c.defined(&l[i].E)
	}
}
