package parse

import (
	"metronome/api"
	"metronome/lex"
	"metronome/nums"
)

// parser is what is still to be read of the words of a text. The End among them is never passed, so that there always is a word, and behind any other word a further one.
type parser struct {
	words []lex.Token
	open  int // how many expressions, blocks and operators of one operand are open
}

// stop is what the parser panics with at its first error.
type stop struct {
	kind api.Kind
	at   api.Pos
}

// fail stops at the next word.
func (p *parser) fail(k api.Kind) { failAt(k, p.here()) }

func failAt(k api.Kind, at api.Pos) { panic(stop{k, at}) }

// here is where the next word stands.
func (p *parser) here() api.Pos { return p.words[0].At }

// is: is the next word this keyword or sign? No name and no number is spelt like one.
func (p *parser) is(text string) bool { return p.words[0].Text == text }

func (p *parser) isKind(kind byte) bool { return p.words[0].Kind == kind }

// next takes the next word, which is no End.
func (p *parser) next() lex.Token {
	t := p.words[0]
	p.words = p.words[1:]
	return t
}

// skip takes the next word if it is this one.
func (p *parser) skip(text string) bool {
	if !p.is(text) {
		return false
	}
	p.next()
	return true
}

// want takes the next word, which must be this one.
func (p *parser) want(text string) {
	if !p.skip(text) {
		p.fail(api.Syntax)
	}
}

// name takes the next word, which must be a name of a kind: Small or Great.
func (p *parser) name(kind byte) string {
	if !p.isKind(kind) {
		p.fail(api.Syntax)
	}
	return p.next().Text
}

func (p *parser) small() string { return p.name(lex.Small) }

func (p *parser) great() string { return p.name(lex.Great) }

func (p *parser) end() {
	if !p.isKind(lex.End) {
		p.fail(api.Syntax)
	}
}

// operator is the operator of two operands that the next word is, or 0.
func (p *parser) operator() byte {
	for op := api.Add; op <= api.Ge; op++ {
		if p.is(nums.Word(op)) {
			return op
		}
	}
	return 0
}

// enter opens one more level of nesting at the next word, whatever that is.
func (p *parser) enter() {
	p.open++
	if p.open > api.MaxDepth {
		p.fail(api.Limit)
	}
}

// leave closes the level that was opened last.
func (p *parser) leave() { p.open-- }

// limit stops at the next word if it would begin one more of something of which there are n, and no more than most may be.
func (p *parser) limit(n, most int) {
	if n >= most {
		p.fail(api.Limit)
	}
}

// list reads what stands in parentheses: nothing, or one and more with a sign between.
func list[T any](p *parser, between string, one func() T) []T {
	p.want("(")
	if p.skip(")") {
		return nil
	}
	l := []T{one()}
	for p.skip(between) {
		l = append(l, one())
	}
	p.want(")")
	return l
}
