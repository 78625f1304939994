package inits_test

import (
	"slices"

	"metronome/api"
	"metronome/faults"
	"metronome/tree"
)

// isLate is P10.1 read a second time, of an expression.
func isLate(e api.Expr, late []string) bool {
	lateKid := func(e api.Expr) bool { return isLate(e, late) }
	switch e.Kind {
	case api.EPre:
		return true
	case api.EVar:
		return slices.Contains(late, e.Name)
	case api.EFby, api.EArrow:
		return lateKid(e.Kids[0])
	}
	return slices.ContainsFunc(e.Kids, lateKid)
}

// lateOf is P10.1 read a second time, of a block: it adds to the late variables around it those of its own, as long as there are more.
func lateOf(b api.Block, around []string) []string {
	late := slices.Clone(around)
	for {
		i := slices.IndexFunc(b.Eqs, func(q api.Equation) bool {
			return q.Kind == api.QDef && declares(b, q) && !slices.Contains(late, q.Lhs[0]) && isLate(q.E, late)
		})
		if i < 0 {
			return late
		}
		late = append(late, b.Eqs[i].Lhs[0])
	}
}

// declares: does a block declare what a definition defines?
func declares(b api.Block, q api.Equation) bool { return tree.Find(b.Vars, q.Lhs[0]) >= 0 }

// reading is P10.2 read a second time, word by word: it writes down the errors of a program in their order, each with the rule that it comes from. Only the first one counts.
type reading struct {
	errs  []error
	rules []string
}

// read returns the first error of a program, and its rule.
func read(p api.Program) (error, string) {
	r := &reading{}
	for _, n := range p.Nodes {
		r.block(n.B, nil, nil)
	}
	if len(r.errs) == 0 {
		return nil, "right"
	}
	return r.errs[0], r.rules[0]
}

func (r *reading) no(wrong bool, rule string, at api.Pos) {
	if wrong {
		r.errs = append(r.errs, faults.New(api.Init, at))
		r.rules = append(r.rules, rule)
	}
}

// block reads a block, of a state with its transitions in Until; around are the late variables of the blocks around it.
func (r *reading) block(b api.Block, around []string, until []api.Trans) {
	late := lateOf(b, around)
	for _, v := range b.Vars {
		r.no(v.Last && slices.Contains(late, v.Name), "late variable with a last value", v.At)
	}
	for _, q := range b.Eqs {
		r.equation(b, q, late)
	}
	for _, w := range until {
		r.defined("until", w.E, late)
	}
}

func (r *reading) equation(b api.Block, q api.Equation, late []string) {
	switch q.Kind {
	case api.QDef:
		r.interior("definition", q.E, late)
		r.no(isLate(q.E, late) && !declares(b, q), "definition: late, but of no variable of the block", q.At)
	case api.QCall:
		for _, e := range q.Args {
			r.defined("argument", e, late)
		}
		if q.Has {
			r.defined("call", q.E, late)
		}
	case api.QReset:
		r.block(q.Arms[0].B, late, nil)
		r.defined("reset", q.E, late)
	case api.QSwitch:
		r.defined("switch", q.E, late)
		for _, a := range q.Arms {
			r.block(a.B, late, nil)
		}
	case api.QAuto:
		for _, a := range q.Arms {
			for _, w := range a.Unless {
				r.defined("unless", w.E, late)
			}
			r.block(a.B, late, a.Until)
		}
	}
}

func (r *reading) defined(where string, e api.Expr, late []string) {
	r.interior(where, e, late)
	r.no(isLate(e, late), where+": late", e.At)
}

func (r *reading) interior(where string, e api.Expr, late []string) {
	for _, kid := range e.Kids {
		r.interior(where, kid, late)
	}
	switch e.Kind {
	case api.EFby:
		r.no(isLate(e.Kids[1], late), where+": fby", e.At)
	case api.EPre:
		r.no(isLate(e.Kids[0], late), where+": pre", e.At)
	case api.EArrow:
		r.no(isLate(e.Kids[0], late), where+": ->", e.At)
	case api.EWhen:
		r.no(slices.Contains(late, e.Name), where+": when", e.At)
	case api.EMerge:
		r.no(slices.Contains(late, e.Name), where+": merge", e.At)
	}
}
