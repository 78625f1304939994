package types

import (
	"metronome/api"
	"metronome/tree"
)

// node checks a node. What its inputs and outputs are sampled by is one of themselves: while they are checked, nothing else is visible.
func (c *checker) node(n *api.Node) {
	c.vars = map[string]api.Type{}
	c.see(n.Ins)
	c.see(n.Outs)
	c.variables(n.Ins)
	c.variables(n.Outs)
	c.block(&n.B, nil)
}

// block checks a block, and then the transitions that see its variables.
func (c *checker) block(b *api.Block, until []api.Trans) {
	c.see(b.Vars)
	c.variables(b.Vars)
	for i := range b.Eqs {
		c.eq(&b.Eqs[i])
	}
	c.ways(until)
	for i := range b.Vars {
		delete(c.vars, b.Vars[i].Name)
	}
}

// variables checks the first values of variables, and what they are sampled by.
func (c *checker) variables(l []api.Var) {
	for i := range l {
		v := &l[i]
		if v.Last {
			c.must(c.first(&v.First) == plain(v.T), v.At)
		}
		for _, on := range v.Clock {
			c.must(c.has(on.Var, on.Ctor), v.At)
		}
	}
}

// first checks a first value, in which no variable is visible, and returns its type.
func (c *checker) first(e *api.Expr) api.Type {
	visible := c.vars
	c.vars = nil
	t := c.expr(e)
	c.vars = visible
	return t
}

func (c *checker) eq(q *api.Equation) {
	switch q.Kind {
	case api.QDef:
		c.define(q)
	case api.QCall:
		c.call(q)
	case api.QReset:
		for i := range q.Arms {
			c.block(&q.Arms[i].B, nil)
		}
		c.mustBe(&q.E, boolean)
	case api.QSwitch:
		c.arms(q)
	case api.QAuto:
		for i := range q.Arms {
			c.ways(q.Arms[i].Unless)
			c.block(&q.Arms[i].B, q.Arms[i].Until)
		}
	}
}

func (c *checker) define(q *api.Equation) {
	t := c.expr(&q.E)
	for _, name := range q.Lhs {
		c.must(t == c.vars[name], q.At)
	}
}

func (c *checker) call(q *api.Equation) {
	i := tree.FindNode(c.p, q.Name)
	if i < 0 || len(q.Args) != len(c.p.Nodes[i].Ins) || len(q.Lhs) != len(c.p.Nodes[i].Outs) {
		c.must(false, q.At)
		return
	}
	n := &c.p.Nodes[i]
	for i := range q.Args {
		c.mustBe(&q.Args[i], plain(n.Ins[i].T))
	}
	for i, name := range q.Lhs {
		c.must(c.vars[name] == plain(n.Outs[i].T), q.At)
	}
	if q.Has {
		c.mustBe(&q.E, boolean)
	}
}

// arms checks a switch. While there is no error, each arm takes a constructor: those that are left have none.
func (c *checker) arms(q *api.Equation) {
	t := c.expr(&q.E)
	c.must(t != integer, q.E.At)
	left := c.ctors(t)
	for i := range q.Arms {
		c.must(left.take(q.Arms[i].Name), q.Arms[i].At)
		c.block(&q.Arms[i].B, nil)
	}
	c.must(len(left) == 0, q.At)
}

func (c *checker) ways(l []api.Trans) {
	for i := range l {
		c.mustBe(&l[i].E, boolean)
		c.must(tree.Stateless(l[i].E), l[i].At)
	}
}
