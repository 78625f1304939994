package parse

import (
	"metronome/api"
	"metronome/lex"
	"metronome/tree"
)

func (p *parser) program() api.Program {
	var all api.Program
	for !p.isKind(lex.End) {
		switch {
		case p.is("type"):
			all.Enums = append(all.Enums, p.enum())
		case p.is("node"):
			p.limit(len(all.Nodes), api.MaxNodes)
			all.Nodes = append(all.Nodes, p.node())
		default:
			p.fail(api.Syntax)
		}
	}
	return all
}

func (p *parser) enum() api.Enum {
	p.want("type")
	t := api.Enum{At: p.here(), Name: p.small()}
	p.want("=")
	t.Ctors = append(t.Ctors, p.great())
	for p.skip("|") {
		p.limit(len(t.Ctors), api.MaxCtors)
		t.Ctors = append(t.Ctors, p.great())
	}
	p.want(";")
	return t
}

func (p *parser) node() api.Node {
	p.want("node")
	n := api.Node{At: p.here(), Name: p.small(), Ins: p.params()}
	p.want("returns")
	n.Outs = p.params()
	n.B = p.body("let")
	p.want("tel")
	return n
}

func (p *parser) params() []api.Var { return list(p, ";", p.variable) }

// block reads the block of an arm, of a state or of a reset.
func (p *parser) block() api.Block {
	p.enter()
	b := p.body("do")
	p.leave()
	return b
}

// body reads variables, a word, and equations.
func (p *parser) body(word string) api.Block {
	b := api.Block{Vars: p.locals()}
	p.want(word)
	b.Eqs = p.eqs()
	return b
}

func (p *parser) locals() []api.Var {
	if !p.skip("var") {
		return nil
	}
	var l []api.Var
	for len(l) == 0 || p.is("last") || p.isKind(lex.Small) {
		l = append(l, p.variable())
		p.want(";")
	}
	return l
}

func (p *parser) variable() api.Var {
	v := api.Var{Last: p.skip("last"), At: p.here(), Name: p.small()}
	p.want(":")
	v.T = p.varType()
	for p.skip("when") {
		v.Clock = append(v.Clock, p.on())
	}
	if v.Last {
		p.want("=")
		v.First = p.first()
	}
	return v
}

// first reads the first value of a last variable.
func (p *parser) first() api.Expr {
	e := p.unary()
	if !tree.Const(e) {
		failAt(api.Syntax, e.At)
	}
	return e
}

func (p *parser) varType() api.Type {
	switch {
	case p.skip("bool"):
		return api.Type{Kind: api.TBool}
	case p.skip("int"):
		return api.Type{Kind: api.TInt}
	}
	return api.Type{Kind: api.TEnum, Name: p.small()}
}

// on reads a sampling, behind its when.
func (p *parser) on() api.On {
	o := api.On{Ctor: p.ctor()}
	p.want("(")
	o.Var = p.small()
	p.want(")")
	return o
}

func (p *parser) ctor() string {
	if p.is("true") || p.is("false") {
		return p.next().Text
	}
	return p.great()
}
