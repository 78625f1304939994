package clocks_test

import (
	"slices"

	"metronome/api"
	"metronome/faults"
	"metronome/tree"
)

// reading is the chapter read a second time, word by word: it writes down the errors of a program in their order, each with the rule that it comes from. Only the first one counts.
type reading struct {
	errs  []error
	rules []string
}

// visible is a variable as a block sees it: is it one of a block around it?
type visible struct {
	api.Var
	around bool
}

// read returns the first error of a program, and its rule.
func read(p api.Program) (error, string) {
	r := &reading{}
	for _, n := range p.Nodes {
		for _, v := range n.Ins {
			r.no(len(v.Clock) > 0, "input with a clock", v.At)
		}
		for _, v := range n.Outs {
			r.no(len(v.Clock) > 0, "output with a clock", v.At)
		}
		r.block(n.B, seen(nil, slices.Concat(n.Ins, n.Outs)), nil)
	}
	if len(r.errs) == 0 {
		return nil, "right"
	}
	return r.errs[0], r.rules[0]
}

func (r *reading) no(wrong bool, rule string, at api.Pos) {
	if wrong {
		r.errs = append(r.errs, faults.New(api.Clock, at))
		r.rules = append(r.rules, rule)
	}
}

// seen are variables that are visible, and those of the block itself.
func seen(env []visible, own []api.Var) []visible {
	env = slices.Clone(env)
	for _, v := range own {
		env = append(env, visible{Var: v})
	}
	return env
}

// around is what a block within sees of the variables that are visible.
func around(env []visible) []visible {
	env = slices.Clone(env)
	for i := range env {
		env[i].around = true
	}
	return env
}

// clock is the clock of a variable; false: it can't be read.
func clock(env []visible, name string) ([]api.On, bool) {
	i := slices.IndexFunc(env, func(v visible) bool { return v.Name == name })
	if env[i].around {
		return nil, len(env[i].Clock) == 0
	}
	return env[i].Clock, true
}

// read tells of a variable that can't be read, or hasn't a clock.
func (r *reading) read(name string, env []visible, ck []api.On, rule string, at api.Pos) {
	of, ok := clock(env, name)
	r.no(!ok, rule+" can't be read", at)
	r.no(ok && !slices.Equal(of, ck), rule+" on another clock", at)
}

// block reads a block, of a state with its transitions in Until; env is what it sees of the variables around it.
func (r *reading) block(b api.Block, env []visible, until []api.Trans) {
	env = seen(env, b.Vars)
	for _, v := range b.Vars {
		for i, on := range v.Clock {
			r.read(on.Var, env, v.Clock[:i], "sampling variable", v.At)
		}
	}
	for _, q := range b.Eqs {
		r.equation(q, env)
	}
	for _, w := range until {
		r.expr("until: ", w.E, env, nil)
	}
}

func (r *reading) equation(q api.Equation, env []visible) {
	switch q.Kind {
	case api.QDef:
		ck, ok := clock(env, q.Lhs[0])
		r.no(!ok, "defined variable can't be read", q.At)
		r.expr("definition: ", q.E, env, ck)
	case api.QCall:
		r.call(q, env)
	case api.QReset:
		r.block(q.Arms[0].B, around(env), nil)
		r.defines(q, env)
		r.expr("reset: ", q.E, env, nil)
	case api.QSwitch:
		r.expr("switch: ", q.E, env, nil)
		for _, a := range q.Arms {
			r.block(a.B, around(env), nil)
		}
		r.defines(q, env)
	case api.QAuto:
		for _, a := range q.Arms {
			for _, w := range a.Unless {
				r.expr("unless: ", w.E, env, nil)
			}
			r.block(a.B, around(env), a.Until)
		}
		r.defines(q, env)
	}
}

// defines reads the condition that what is defined within has the base clock. It never is the first error: where a variable is defined within, it must be read there.
func (r *reading) defines(q api.Equation, env []visible) {
	for _, name := range tree.Defines(q) {
		r.read(name, env, nil, "defined within", q.At)
	}
}

func (r *reading) call(q api.Equation, env []visible) {
	var ck []api.On
	for i, name := range q.Lhs {
		of, ok := clock(env, name)
		r.no(!ok, "result can't be read", q.At)
		if i == 0 {
			ck = of
		}
		r.no(ok && !slices.Equal(of, ck), "results on two clocks", q.At)
	}
	for _, e := range q.Args {
		r.expr("argument: ", e, env, ck)
	}
	if q.Has {
		r.expr("call: ", q.E, env, ck)
	}
}

func (r *reading) expr(where string, e api.Expr, env []visible, ck []api.On) {
	switch e.Kind {
	case api.EVar:
		r.read(e.Name, env, ck, where+"variable", e.At)
	case api.ELast:
		r.read(e.Name, env, ck, where+"last value", e.At)
	case api.EWhen:
		n := len(ck) - 1
		if n < 0 || ck[n] != (api.On{Ctor: e.Names[0], Var: e.Name}) {
			r.no(true, where+"another sampling", e.At)
			return
		}
		r.read(e.Name, env, ck[:n], where+"sampling variable", e.At)
		r.expr(where, e.Kids[0], env, ck[:n])
	case api.EMerge:
		r.read(e.Name, env, ck, where+"merge", e.At)
		for i, kid := range e.Kids {
			r.expr(where, kid, env, slices.Concat(ck, []api.On{{Ctor: e.Names[i], Var: e.Name}}))
		}
	default:
		for _, kid := range e.Kids {
			r.expr(where, kid, env, ck)
		}
	}
}
