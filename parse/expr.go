package parse

import (
	"metronome/api"
	"metronome/lex"
	"metronome/nums"
	"metronome/tree"
)

// expr reads an expression. That it has become too deep is seen only at its end, as operators that follow one another nest it too.
func (p *parser) expr() api.Expr {
	begin := p.here()
	p.enter()
	e := p.inner()
	p.leave()
	if tree.Depth(e) > api.MaxDepth {
		failAt(api.Limit, begin)
	}
	return e
}

// inner reads what an expression is, within the level that it opened.
func (p *parser) inner() api.Expr {
	if p.is("if") {
		return p.choice()
	}
	begin := p.here()
	e := p.binary(1)
	switch {
	case p.skip("->"):
		return two(api.EArrow, 0, begin, e, p.expr())
	case p.is("fby"):
		if !tree.Const(e) {
			p.fail(api.Syntax)
		}
		p.next()
		return two(api.EFby, 0, begin, e, p.expr())
	}
	return e
}

func (p *parser) choice() api.Expr {
	e := api.Expr{Kind: api.EIf, At: p.here()}
	for _, word := range [...]string{"if", "then", "else"} {
		p.want(word)
		e.Kids = append(e.Kids, p.expr())
	}
	return e
}

// binary reads unary expressions joined by operators at least as strong as least. Behind an operator the next one is at most as strong, and weaker behind a comparison: where another comparison follows, the expression is at its end.
func (p *parser) binary(least int) api.Expr {
	begin := p.here()
	e := p.unary()
	most := nums.Strength(api.Mul)
	for {
		op := p.operator()
		strength := nums.Strength(op)
		if strength < least || strength > most {
			return e
		}
		p.next()
		e = two(api.EBin, op, begin, e, p.binary(strength+1))
		most = strength
		if strength == nums.Strength(api.Eq) {
			most--
		}
	}
}

// two is an expression of two operands. It begins where its text does: with a parenthesis, if its left operand stands in one.
func two(kind, op byte, begin api.Pos, left, right api.Expr) api.Expr {
	return api.Expr{Kind: kind, Op: op, Kids: []api.Expr{left, right}, At: begin}
}

func (p *parser) unary() api.Expr {
	at := p.here()
	switch {
	case p.skip("not"):
		return p.operand(api.Expr{Kind: api.EUn, Op: api.Not, At: at})
	case p.skip("pre"):
		return p.operand(api.Expr{Kind: api.EPre, At: at})
	case p.skip("-"):
		if p.isKind(lex.Number) {
			return p.sampled(api.Expr{Kind: api.EInt, N: -p.next().N, At: at})
		}
		return p.operand(api.Expr{Kind: api.EUn, Op: api.Neg, At: at})
	}
	return p.sampled(p.atom())
}

// operand reads the operand of an operator of one.
func (p *parser) operand(e api.Expr) api.Expr {
	p.enter()
	e.Kids = []api.Expr{p.unary()}
	p.leave()
	return e
}

// sampled reads the samplings behind an expression.
func (p *parser) sampled(e api.Expr) api.Expr {
	for p.skip("when") {
		at := e.At
		e = tree.When(e, p.on())
		e.At = at
	}
	return e
}

func (p *parser) atom() api.Expr {
	switch p.words[0].Kind {
	case lex.Number:
		return p.number()
	case lex.Small:
		return api.Expr{Kind: api.EVar, At: p.here(), Name: p.small()}
	case lex.Great:
		return api.Expr{Kind: api.ECtor, At: p.here(), Name: p.great()}
	}
	at := p.here()
	switch {
	case p.skip("true"):
		return api.Expr{Kind: api.EBool, N: 1, At: at}
	case p.skip("false"):
		return api.Expr{Kind: api.EBool, At: at}
	case p.skip("last"):
		return api.Expr{Kind: api.ELast, Name: p.small(), At: at}
	case p.skip("merge"):
		return p.merge(at)
	}
	p.want("(")
	e := p.expr()
	p.want(")")
	return e
}

// number reads a number without a minus: the one that is a number only with it comes from lex below 0.
func (p *parser) number() api.Expr {
	if p.words[0].N < 0 {
		p.fail(api.Limit)
	}
	t := p.next()
	return api.Expr{Kind: api.EInt, N: t.N, At: t.At}
}

// merge reads a merge, behind that word.
func (p *parser) merge(at api.Pos) api.Expr {
	e := api.Expr{Kind: api.EMerge, Name: p.small(), At: at}
	for len(e.Kids) == 0 || p.is("(") {
		p.limit(len(e.Kids), api.MaxCtors)
		p.want("(")
		e.Names = append(e.Names, p.ctor())
		p.want("->")
		e.Kids = append(e.Kids, p.expr())
		p.want(")")
	}
	return e
}
