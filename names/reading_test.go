package names_test

import (
	"slices"

	"metronome/api"
	"metronome/faults"
	"metronome/tree"
)

// reading is the chapter read a second time, word by word: it writes down all errors of a program in their order, each with the rule that it comes from. Only the first one counts.
type reading struct {
	p     api.Program
	outs  []string
	errs  []error
	rules []string
}

// sight is what is visible at a place, and which of that an equation may define.
type sight struct {
	vars []api.Var
	may  []string
}

func (s sight) and(v api.Var, may bool) sight {
	s.vars = append(slices.Clone(s.vars), v)
	if may {
		s.may = append(slices.Clone(s.may), v.Name)
	}
	return s
}

func (s sight) sees(name string) bool { return tree.Find(s.vars, name) >= 0 }

func (s sight) hasLast(name string) bool {
	i := tree.Find(s.vars, name)
	return i >= 0 && s.vars[i].Last
}

// read returns the first error of a program, and its rule.
func read(p api.Program) (error, string) {
	r := &reading{p: p}
	for i, t := range p.Enums {
		if tree.FindEnum(p.Enums[:i], t.Name) >= 0 {
			r.tell("type twice", api.Twice, t.At)
		}
		for j, ctor := range t.Ctors {
			if tree.CtorEnum(p.Enums[:i], ctor) >= 0 {
				r.tell("constructor of an earlier type", api.Twice, t.At)
			}
			if slices.Contains(t.Ctors[:j], ctor) {
				r.tell("constructor of the same type", api.Twice, t.At)
			}
		}
	}
	for i, n := range p.Nodes {
		if tree.FindNode(api.Program{Nodes: p.Nodes[:i]}, n.Name) >= 0 {
			r.tell("node twice", api.Twice, n.At)
		}
	}
	for _, n := range p.Nodes {
		r.node(n)
	}
	for _, n := range p.Nodes {
		if slices.Contains(nearest(p, n.Name), n.Name) {
			r.tell("loop", api.Loop, n.At)
		}
	}
	if len(r.errs) == 0 {
		return nil, "right"
	}
	return r.errs[0], r.rules[0]
}

func (r *reading) tell(rule string, k api.Kind, at api.Pos) {
	r.errs = append(r.errs, faults.New(k, at))
	r.rules = append(r.rules, rule)
}

func (r *reading) node(n api.Node) {
	var s sight
	for _, v := range n.Ins {
		r.variable(v, s)
		s = s.and(v, false)
	}
	for _, v := range n.Outs {
		r.variable(v, s)
		s = s.and(v, true)
	}
	r.block(n.B, s, nil, nil)
	for _, v := range n.Outs {
		if !slices.Contains(tree.BlockDefines(n.B), v.Name) {
			r.tell("output not defined", api.Name, v.At)
		}
	}
}

func (r *reading) variable(v api.Var, s sight) {
	if s.sees(v.Name) {
		r.tell("variable twice", api.Twice, v.At)
	} else if v.T.Kind == api.TEnum && tree.FindEnum(r.p.Enums, v.T.Name) < 0 {
		r.tell("no such type", api.Name, v.At)
	}
	if v.Last {
		r.expr("first: ", v.First, s)
	}
}

func (r *reading) hasCtor(name string) bool {
	return name == "true" || name == "false" || tree.CtorEnum(r.p.Enums, name) >= 0
}

// block reads a block, of a state with its transitions in Until.
func (r *reading) block(b api.Block, s sight, until []api.Trans, states []api.Arm) {
	for _, v := range b.Vars {
		r.variable(v, s)
		s = s.and(v, true)
	}
	for _, v := range b.Vars {
		for _, on := range v.Clock {
			if !s.sees(on.Var) {
				r.tell("clock of no variable", api.Name, v.At)
			}
			if !r.hasCtor(on.Ctor) {
				r.tell("clock of no constructor", api.Name, v.At)
			}
		}
	}
	var defined []string
	for _, q := range b.Eqs {
		r.equation(q, s)
		l := tree.Defines(q)
		if q.Kind == api.QDef || q.Kind == api.QCall {
			l = q.Lhs
		}
		for _, name := range l {
			if slices.Contains(defined, name) {
				r.tell("defined twice", api.Twice, q.At)
			} else if !slices.Contains(s.may, name) {
				r.tell("may not be defined", api.Name, q.At)
			}
			defined = append(defined, name)
		}
	}
	r.ways("until: ", until, states, s)
	for _, v := range b.Vars {
		if !slices.Contains(defined, v.Name) {
			r.tell("variable not defined", api.Name, v.At)
		}
	}
}

func (r *reading) equation(q api.Equation, s sight) {
	switch q.Kind {
	case api.QDef:
		r.expr("", q.E, s)
	case api.QCall:
		if tree.FindNode(r.p, q.Name) < 0 {
			r.tell("no such node", api.Name, q.At)
		}
		for _, e := range q.Args {
			r.expr("argument: ", e, s)
		}
		if q.Has {
			r.expr("every: ", q.E, s)
		}
	case api.QReset:
		r.block(q.Arms[0].B, s, nil, nil)
		r.expr("reset: ", q.E, s)
	case api.QSwitch:
		r.expr("switch: ", q.E, s)
		r.arms(q, s)
	case api.QAuto:
		r.arms(q, s)
	}
}

func (r *reading) arms(q api.Equation, s sight) {
	for i, a := range q.Arms {
		if q.Kind == api.QSwitch {
			r.block(a.B, s, nil, nil)
			continue
		}
		if slices.ContainsFunc(q.Arms[:i], func(b api.Arm) bool { return b.Name == a.Name }) {
			r.tell("state twice", api.Twice, a.At)
		}
		r.ways("unless: ", a.Unless, q.Arms, s)
		r.block(a.B, s, a.Until, q.Arms)
	}
	for _, a := range q.Arms {
		for _, b := range q.Arms {
			for _, name := range tree.BlockDefines(b.B) {
				if !slices.Contains(tree.BlockDefines(a.B), name) && !s.hasLast(name) {
					r.tell("not defined in an arm", api.Name, a.At)
				}
			}
		}
	}
}

func (r *reading) ways(rule string, l []api.Trans, states []api.Arm, s sight) {
	for _, w := range l {
		r.expr(rule, w.E, s)
		if !slices.ContainsFunc(states, func(a api.Arm) bool { return a.Name == w.To }) {
			r.tell(rule+"no such state", api.Name, w.At)
		}
	}
}

func (r *reading) expr(rule string, e api.Expr, s sight) {
	for _, kid := range e.Kids {
		r.expr(rule, kid, s)
	}
	no := func(wrong bool, what string) {
		if wrong {
			r.tell(rule+what, api.Name, e.At)
		}
	}
	switch e.Kind {
	case api.EVar:
		no(!s.sees(e.Name), "no such variable")
	case api.ELast:
		no(!s.sees(e.Name), "no such variable")
		no(!s.hasLast(e.Name), "no last value")
	case api.ECtor:
		no(tree.CtorEnum(r.p.Enums, e.Name) < 0, "no such constructor")
	case api.EWhen, api.EMerge:
		no(!s.sees(e.Name), "sampled by no variable")
		for _, ctor := range e.Names {
			no(!r.hasCtor(ctor), "sampled by no constructor")
		}
	}
}
