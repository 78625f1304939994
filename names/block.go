package names

import "metronome/api"

// block checks a block; inside is called where what follows its equations, but sees its variables, is to be checked. It returns what the block defines of the variables around it.
func (c *checker) block(b *api.Block, inside func()) once {
	c.declare(b.Vars, true)
	c.clocks(b.Vars)
	var defined once
	for i := range b.Eqs {
		c.define(&b.Eqs[i], &defined)
	}
	if inside != nil {
		inside()
	}
	own := set{}
	for i := range b.Vars {
		own.add(b.Vars[i].Name)
		c.must(defined.has(b.Vars[i].Name), api.Name, b.Vars[i].At)
		delete(c.vars, b.Vars[i].Name)
	}
	return defined.without(own)
}

// clocks checks what the variables of a block are sampled by: any variable of it, also a later one.
func (c *checker) clocks(l []api.Var) {
	for i := range l {
		for _, on := range l[i].Clock {
			_, visible := c.vars[on.Var]
			c.must(visible && c.sampling(on.Ctor), api.Name, l[i].At)
		}
	}
}

// define checks an equation, and then whether it defines what it may, and no earlier one does.
func (c *checker) define(q *api.Equation, defined *once) {
	for _, name := range c.eq(q) {
		c.must(defined.add(name), api.Twice, q.At)
		c.must(c.vars[name].open, api.Name, q.At)
	}
}

// eq checks what is in an equation, and returns what it defines.
func (c *checker) eq(q *api.Equation) []string {
	switch q.Kind {
	case api.QDef:
		c.expr(&q.E)
	case api.QCall:
		c.must(c.nodes.has(q.Name), api.Name, q.At)
		c.exprs(q.Args)
		if q.Has {
			c.expr(&q.E)
		}
	case api.QReset:
		l := c.arms(q.Arms)
		c.expr(&q.E)
		return l
	case api.QSwitch:
		c.expr(&q.E)
		return c.arms(q.Arms)
	case api.QAuto:
		return c.states(q.Arms)
	}
	return q.Lhs
}

// arms checks the arms of a switch, or the one of a reset, and returns what they define.
func (c *checker) arms(l []api.Arm) []string {
	blocks := make([]once, len(l))
	for i := range l {
		blocks[i] = c.block(&l[i].B, nil)
	}
	return c.common(l, blocks)
}

// states checks the states of an automaton, and returns what they define. What leaves a state strongly doesn't see its variables.
func (c *checker) states(l []api.Arm) []string {
	all, earlier := set{}, set{}
	for i := range l {
		all.add(l[i].Name)
	}
	blocks := make([]once, len(l))
	for i := range l {
		a := &l[i]
		c.must(earlier.add(a.Name), api.Twice, a.At)
		c.ways(a.Unless, all)
		blocks[i] = c.block(&a.B, func() { c.ways(a.Until, all) })
	}
	return c.common(l, blocks)
}

func (c *checker) ways(l []api.Trans, states set) {
	for i := range l {
		c.expr(&l[i].E)
		c.must(states.has(l[i].To), api.Name, l[i].At)
	}
}

// common returns what the blocks of some arms define, and checks that each one defines all of that, but for what has a last value. A block defines a part of it, so that it is enough to count.
func (c *checker) common(arms []api.Arm, blocks []once) []string {
	var all once
	for _, b := range blocks {
		for _, name := range b.list {
			all.add(name)
		}
	}
	needed := c.needed(all.list)
	for i, b := range blocks {
		c.must(c.needed(b.list) == needed, api.Name, arms[i].At)
	}
	return all.list
}

// needed counts the variables that have no last value to fall back on.
func (c *checker) needed(l []string) int {
	n := 0
	for _, name := range l {
		if !c.vars[name].last {
			n++
		}
	}
	return n
}
