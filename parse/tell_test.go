package parse_test

import (
	"reflect"
	"strconv"
	"strings"
	"testing"

	"metronome/api"
)

// words are the operators, by the numbers that api gives them; neg is the - of one operand.
var words = [...]string{"", "not", "neg", "+", "-", "*", "/", "mod", "and", "or", "xor", "=", "<>", "<", "<=", ">", ">="}

// teller tells what was parsed as a text of brackets, with positions or without.
type teller struct{ places bool }

func (t teller) at(p api.Pos) string {
	if !t.places {
		return ""
	}
	return "@" + strconv.Itoa(p.Line) + ":" + strconv.Itoa(p.Col)
}

func (t teller) expr(e api.Expr) string {
	at := t.at(e.At)
	switch e.Kind {
	case api.EInt:
		return strconv.Itoa(int(e.N)) + at
	case api.EBool:
		return []string{"false", "true"}[e.N] + at
	case api.ECtor, api.EVar:
		return e.Name + at
	case api.ELast:
		return "last:" + e.Name + at
	case api.EWhen:
		return "(when" + at + " " + t.expr(e.Kids[0]) + " " + e.Names[0] + ":" + e.Name + ")"
	case api.EMerge:
		s := "(merge" + at + " " + e.Name
		for i, kid := range e.Kids {
			s += " " + e.Names[i] + ":" + t.expr(kid)
		}
		return s + ")"
	}
	head := map[byte]string{api.EIf: "if", api.EFby: "fby", api.EPre: "pre", api.EArrow: "->"}[e.Kind]
	if e.Kind == api.EUn || e.Kind == api.EBin {
		head = words[e.Op]
	}
	return "(" + head + at + prefixed(e.Kids, t.expr) + ")"
}

// prefixed tells a list, with a blank ahead of each element.
func prefixed[T any](l []T, tell func(T) string) string {
	s := ""
	for _, x := range l {
		s += " " + tell(x)
	}
	return s
}

func (t teller) vars(l []api.Var) string {
	return "[" + strings.TrimPrefix(prefixed(l, t.variable), " ") + "]"
}

func (t teller) variable(v api.Var) string {
	s := v.Name + t.at(v.At) + ":" + []string{"", "bool", "int", "enum-"}[v.T.Kind] + v.T.Name
	for _, on := range v.Clock {
		s += "/" + on.Ctor + ":" + on.Var
	}
	if v.Last {
		s = "last:" + s + "=" + t.expr(v.First)
	}
	return s
}

func (t teller) eq(q api.Equation) string {
	lhs, every := strings.Join(q.Lhs, ","), ""
	if q.Has {
		every = " every " + t.expr(q.E)
	}
	at := t.at(q.At)
	switch q.Kind {
	case api.QDef:
		return "(def" + at + " " + lhs + " " + t.expr(q.E) + ")"
	case api.QCall:
		return "(call" + at + " " + lhs + " " + q.Name + prefixed(q.Args, t.expr) + every + ")"
	case api.QSwitch:
		return "(switch" + at + " " + t.expr(q.E) + prefixed(q.Arms, t.arm) + ")"
	case api.QAuto:
		return "(auto" + at + prefixed(q.Arms, t.arm) + ")"
	}
	return "(reset" + at + prefixed(q.Arms, t.arm) + " " + t.expr(q.E) + ")"
}

func (t teller) arm(a api.Arm) string {
	ways := func(word string, l []api.Trans) string {
		return prefixed(l, func(w api.Trans) string {
			if w.Resume {
				return "(" + word + t.at(w.At) + " " + t.expr(w.E) + " continue " + w.To + ")"
			}
			return "(" + word + t.at(w.At) + " " + t.expr(w.E) + " then " + w.To + ")"
		})
	}
	return "<" + a.Name + t.at(a.At) + t.block(a.B) + ways("unless", a.Unless) + ways("until", a.Until) + ">"
}

func (t teller) block(b api.Block) string {
	s := ""
	if len(b.Vars) > 0 {
		s = " " + t.vars(b.Vars)
	}
	return s + prefixed(b.Eqs, t.eq)
}

func (t teller) program(p api.Program) string {
	s := ""
	for _, e := range p.Enums {
		s += "type " + e.Name + t.at(e.At) + " " + strings.Join(e.Ctors, "|") + "\n"
	}
	for _, n := range p.Nodes {
		s += "node " + n.Name + t.at(n.At) + " " + t.vars(n.Ins) + " " + t.vars(n.Outs) + t.block(n.B) + "\n"
	}
	return s
}

// untold is what a text of brackets does not tell of an expression itself: the fields that its kind does not use.
func untold(e api.Expr) api.Expr {
	switch e.Kind {
	case api.EInt, api.EBool:
		e.N = 0
	case api.ECtor, api.EVar, api.ELast:
		e.Name = ""
	case api.EUn, api.EBin:
		e.Op, e.Kids = 0, nil
	case api.EIf, api.EFby, api.EPre, api.EArrow:
		e.Kids = nil
	case api.EWhen, api.EMerge:
		e.Name, e.Names, e.Kids = "", nil, nil
	}
	e.Kind, e.At = 0, api.Pos{}
	return e
}

// neat holds the fields that nothing uses to their zero values.
func neat(t *testing.T, e api.Expr) {
	t.Helper()
	if got := untold(e); !reflect.DeepEqual(got, api.Expr{}) {
		t.Errorf("%s has more than it should: %v", teller{}.expr(e), got)
	}
	for _, kid := range e.Kids {
		neat(t, kid)
	}
}

func neatBlock(t *testing.T, b api.Block) {
	t.Helper()
	for _, v := range b.Vars {
		neatVar(t, v)
	}
	for _, q := range b.Eqs {
		neatEq(t, q)
	}
}

func neatVar(t *testing.T, v api.Var) {
	t.Helper()
	neat(t, v.First)
	if !v.Last && !reflect.DeepEqual(v.First, api.Expr{}) {
		t.Errorf("the variable %s has a first value", v.Name)
	}
}

func neatEq(t *testing.T, q api.Equation) {
	t.Helper()
	more := q
	more.Kind, more.At = 0, api.Pos{}
	switch q.Kind {
	case api.QDef:
		more.Lhs, more.E = nil, api.Expr{}
	case api.QCall:
		more.Lhs, more.Name, more.Args, more.Has = nil, "", nil, false
		if q.Has {
			more.E = api.Expr{}
		}
	case api.QSwitch, api.QReset:
		more.E, more.Arms = api.Expr{}, nil
	case api.QAuto:
		more.Arms = nil
	}
	if !reflect.DeepEqual(more, api.Equation{}) {
		t.Errorf("%s has more than it should: %v", teller{}.eq(q), more)
	}
	neat(t, q.E)
	for _, e := range q.Args {
		neat(t, e)
	}
	for _, a := range q.Arms {
		neatBlock(t, a.B)
		for _, w := range append(append([]api.Trans{}, a.Unless...), a.Until...) {
			neat(t, w.E)
		}
	}
}

func neatProgram(t *testing.T, p api.Program) {
	t.Helper()
	for _, n := range p.Nodes {
		for _, v := range append(append([]api.Var{}, n.Ins...), n.Outs...) {
			neatVar(t, v)
		}
		neatBlock(t, n.B)
	}
}
