package types_test

import (
	"slices"

	"metronome/api"
	"metronome/faults"
	"metronome/tree"
)

// reading is the chapter read a second time, word by word: it writes down all errors of a program in their order, each with the rule that it comes from. Only the first one counts.
type reading struct {
	p     api.Program
	errs  []error
	rules []string
}

// first is the first error that was written down, and its rule.
func (r *reading) first() (error, string) {
	if len(r.errs) == 0 {
		return nil, "right"
	}
	return r.errs[0], r.rules[0]
}

// read returns the first error of a program, and its rule. A name that a type doesn't use is ignored.
func read(p api.Program) (error, string) {
	p = copied(p)
	for _, t := range all[api.Type](&p) {
		if t.Kind != api.TEnum {
			t.Name = ""
		}
	}
	r := &reading{p: p}
	for _, n := range p.Nodes {
		around := slices.Concat(n.Ins, n.Outs)
		for _, v := range around {
			r.variable(v, around, "input or output: ")
		}
		r.block(n.B, around, nil)
	}
	return r.first()
}

// readExpr returns the type of an expression, or its first error, and its rule.
func readExpr(p api.Program, env []api.Var, e api.Expr) (api.Type, error, string) {
	r := &reading{p: p}
	t := r.expr("", e, env)
	err, rule := r.first()
	if err != nil {
		t = api.Type{}
	}
	return t, err, rule
}

func (r *reading) no(wrong bool, rule string, at api.Pos) {
	if wrong {
		r.errs = append(r.errs, faults.New(api.Typed, at))
		r.rules = append(r.rules, rule)
	}
}

func (r *reading) variable(v api.Var, env []api.Var, where string) {
	if v.Last {
		t := r.expr("first: ", v.First, nil)
		r.no(t != v.T, where+"first value of another type", v.At)
	}
	for _, on := range v.Clock {
		i := tree.Find(env, on.Var)
		r.no(i < 0, where+"sampled by another variable", v.At)
		r.no(i >= 0 && !slices.Contains(tree.Ctors(r.p.Enums, env[i].T), on.Ctor), where+"sampled by no constructor", v.At)
	}
}

// block reads a block, of a state with its transitions in Until.
func (r *reading) block(b api.Block, env []api.Var, until []api.Trans) {
	env = slices.Concat(env, b.Vars)
	for _, v := range b.Vars {
		r.variable(v, env, "variable: ")
	}
	for _, q := range b.Eqs {
		r.equation(q, env)
	}
	r.ways("until: ", until, env)
}

func (r *reading) equation(q api.Equation, env []api.Var) {
	switch q.Kind {
	case api.QDef:
		t := r.expr("definition: ", q.E, env)
		r.no(t != env[tree.Find(env, q.Lhs[0])].T, "defined by another type", q.At)
	case api.QCall:
		r.call(q, env)
	case api.QReset:
		r.block(q.Arms[0].B, env, nil)
		r.every("reset: ", q.E, env)
	case api.QSwitch:
		t := r.expr("switch: ", q.E, env)
		r.no(t == intT, "switch of an int", q.E.At)
		ctors := tree.Ctors(r.p.Enums, t)
		for i, a := range q.Arms {
			r.no(slices.ContainsFunc(q.Arms[:i], func(b api.Arm) bool { return b.Name == a.Name }), "arm twice", a.At)
			r.no(!slices.Contains(ctors, a.Name), "arm of another type", a.At)
			r.block(a.B, env, nil)
		}
		r.no(len(q.Arms) < len(ctors), "too few arms", q.At)
	case api.QAuto:
		for _, a := range q.Arms {
			r.ways("unless: ", a.Unless, env)
			r.block(a.B, env, a.Until)
		}
	}
}

func (r *reading) call(q api.Equation, env []api.Var) {
	n := r.p.Nodes[tree.FindNode(r.p, q.Name)]
	r.no(len(q.Args) != len(n.Ins), "number of arguments", q.At)
	r.no(len(q.Lhs) != len(n.Outs), "number of variables", q.At)
	for i, e := range q.Args {
		t := r.expr("argument: ", e, env)
		r.no(i < len(n.Ins) && t != n.Ins[i].T, "argument of another type", e.At)
	}
	for i, name := range q.Lhs {
		r.no(i < len(n.Outs) && env[tree.Find(env, name)].T != n.Outs[i].T, "output of another type", q.At)
	}
	if q.Has {
		r.every("call: ", q.E, env)
	}
}

// every reads an expression that is a bool.
func (r *reading) every(where string, e api.Expr, env []api.Var) {
	r.no(r.expr(where, e, env) != boolT, where+"no bool", e.At)
}

func (r *reading) ways(where string, l []api.Trans, env []api.Var) {
	for _, w := range l {
		r.every(where, w.E, env)
		r.no(hasState(w.E), where+"not stateless", w.At)
	}
}

func hasState(e api.Expr) bool {
	return e.Kind == api.EFby || e.Kind == api.EPre || e.Kind == api.EArrow || slices.ContainsFunc(e.Kids, hasState)
}

func (r *reading) expr(where string, e api.Expr, env []api.Var) api.Type {
	var l []api.Type
	for _, kid := range e.Kids {
		l = append(l, r.expr(where, kid, env))
	}
	no := func(wrong bool, rule string) { r.no(wrong, where+rule, e.At) }
	i := tree.Find(env, e.Name)
	var over api.Type
	if i >= 0 {
		over = env[i].T
	}
	switch e.Kind {
	case api.EVar, api.ELast, api.EWhen, api.EMerge:
		no(where == "first: ", "a variable")
	}
	switch e.Kind {
	case api.EInt:
		return intT
	case api.EBool:
		return boolT
	case api.ECtor:
		return api.Type{Kind: api.TEnum, Name: r.p.Enums[tree.CtorEnum(r.p.Enums, e.Name)].Name}
	case api.EVar, api.ELast:
		return over
	case api.EUn, api.EBin:
		no(l[0] != l[len(l)-1], "operands of two types")
		t, ok := answer(e.Op, l[0])
		no(!ok, "operands of a wrong type")
		return t
	case api.EIf:
		no(l[0] != boolT, "condition of an if")
		no(l[1] != l[2], "branches of an if")
		return l[1]
	case api.EFby, api.EArrow:
		no(l[0] != l[1], "kids of a fby or an arrow")
	case api.EWhen:
		no(!slices.Contains(tree.Ctors(r.p.Enums, over), e.Names[0]), "sampled by no constructor")
		no(hasState(e.Kids[0]), "sampled and not stateless")
	case api.EMerge:
		names, ctors := slices.Sorted(slices.Values(e.Names)), slices.Sorted(slices.Values(tree.Ctors(r.p.Enums, over)))
		no(!slices.Equal(names, ctors), "constructors of a merge")
		no(slices.ContainsFunc(l, func(t api.Type) bool { return t != l[0] }), "kids of a merge")
	}
	return l[0]
}
