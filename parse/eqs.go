package parse

import (
	"metronome/api"
	"metronome/lex"
)

// eqs reads equations as long as the next word can begin one.
func (p *parser) eqs() []api.Equation {
	var l []api.Equation
	for p.isKind(lex.Small) || p.is("(") || p.is("switch") || p.is("automaton") || p.is("reset") {
		l = append(l, p.eq())
		p.want(";")
	}
	return l
}

func (p *parser) eq() api.Equation {
	at := p.here()
	switch {
	case p.skip("switch"):
		return api.Equation{Kind: api.QSwitch, E: p.expr(), Arms: p.arms(p.arm), At: at}
	case p.skip("automaton"):
		return api.Equation{Kind: api.QAuto, Arms: p.arms(p.state), At: at}
	case p.skip("reset"):
		return p.reset(at)
	}
	return p.assign(at)
}

// assign reads a definition or a call. What looks like a call is one; of a definition with another number of variables than one, its expression isn't even begun.
func (p *parser) assign(at api.Pos) api.Equation {
	q := api.Equation{Kind: api.QDef, Lhs: p.lhs(), At: at}
	p.want("=")
	if p.isKind(lex.Small) && p.words[1].Text == "(" {
		return p.call(q)
	}
	if len(q.Lhs) != 1 {
		p.fail(api.Syntax)
	}
	q.E = p.expr()
	return q
}

func (p *parser) lhs() []string {
	if p.is("(") {
		return list(p, ",", p.small)
	}
	return []string{p.small()}
}

// call reads the right side of a call.
func (p *parser) call(q api.Equation) api.Equation {
	q.Kind, q.Name = api.QCall, p.small()
	q.Args = list(p, ",", p.expr)
	q.Has = p.skip("every")
	if q.Has {
		q.E = p.expr()
	}
	return q
}

// reset reads a reset, behind that word.
func (p *parser) reset(at api.Pos) api.Equation {
	arm := api.Arm{B: p.block(), At: at}
	p.want("every")
	return api.Equation{Kind: api.QReset, E: p.expr(), Arms: []api.Arm{arm}, At: at}
}

// arms reads the arms of a switch or the states of an automaton, each behind its sign.
func (p *parser) arms(one func() api.Arm) []api.Arm {
	var l []api.Arm
	for len(l) == 0 || p.is("|") {
		p.limit(len(l), api.MaxCtors)
		p.want("|")
		l = append(l, one())
	}
	p.want("end")
	return l
}

func (p *parser) arm() api.Arm {
	return api.Arm{At: p.here(), Name: p.ctor(), B: p.block()}
}

func (p *parser) state() api.Arm {
	return api.Arm{At: p.here(), Name: p.great(), B: p.block(), Unless: p.ways("unless"), Until: p.ways("until")}
}

// ways reads the transitions that begin with a word.
func (p *parser) ways(word string) []api.Trans {
	var l []api.Trans
	for p.is(word) {
		t := api.Trans{At: p.next().At, E: p.expr(), Resume: p.skip("continue")}
		if !t.Resume {
			p.want("then")
		}
		t.To = p.great()
		l = append(l, t)
	}
	return l
}
