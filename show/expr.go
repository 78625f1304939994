package show

import (
	"strconv"
	"strings"

	"metronome/api"
	"metronome/nums"
)

// Expr: an expression as a text.
func Expr(e api.Expr) string {
	var w words
	w.expr(&e)
	return w.String()
}

// words is the text of an expression while it is written.
type words struct {
	strings.Builder
}

// put writes texts, one after the other.
func (w *words) put(texts ...string) {
	for _, s := range texts {
		w.WriteString(s)
	}
}

func (w *words) expr(e *api.Expr) {
	switch e.Kind {
	case api.EInt:
		w.put(strconv.Itoa(int(e.N)))
	case api.EBool:
		w.put(truth(e.N))
	case api.ECtor, api.EVar:
		w.put(e.Name)
	case api.ELast:
		w.put("last ", e.Name)
	case api.EUn:
		w.one(nums.Word(e.Op), e)
	case api.EBin:
		w.two(nums.Word(e.Op), e)
	case api.EIf:
		w.choice(e)
	case api.EFby:
		w.two("fby", e)
	case api.EPre:
		w.one("pre", e)
	case api.EArrow:
		w.two("->", e)
	case api.EWhen:
		w.operand(e, 0)
		w.when(ctor(e, 0), e.Name)
	case api.EMerge:
		w.merge(e)
	}
}

// one writes an operator ahead of its operand.
func (w *words) one(op string, e *api.Expr) {
	w.put(op, " ")
	w.operand(e, 0)
}

// two writes an operator between its operands: also of fby the first kid, its first value, stands left.
func (w *words) two(op string, e *api.Expr) {
	w.operand(e, 0)
	w.put(" ", op, " ")
	w.operand(e, 1)
}

func (w *words) choice(e *api.Expr) {
	w.put("if ")
	w.kid(e, 0)
	w.put(" then ")
	w.kid(e, 1)
	w.put(" else ")
	w.kid(e, 2)
}

// when writes a sampling.
func (w *words) when(ctor, name string) {
	w.put(" when ", ctor, "(", name, ")")
}

func (w *words) merge(e *api.Expr) {
	w.put("(merge ", e.Name)
	for i := range e.Kids {
		w.put(" (", ctor(e, i), " -> ")
		w.kid(e, i)
		w.put(")")
	}
	w.put(")")
}

// operand writes a kid, in parentheses unless it is closed by itself.
func (w *words) operand(e *api.Expr, i int) {
	if i < len(e.Kids) && !closed(e, &e.Kids[i]) {
		w.put("(")
		w.kid(e, i)
		w.put(")")
		return
	}
	w.kid(e, i)
}

// kid writes a kid as it is; of one that isn't there it writes nothing.
func (w *words) kid(e *api.Expr, i int) {
	if i < len(e.Kids) {
		w.expr(&e.Kids[i])
	}
}

// closed: does a kid of e need no parentheses? A number behind a minus does: the two would be read as one number.
func closed(e, kid *api.Expr) bool {
	switch kid.Kind {
	case api.EBool, api.ECtor, api.EVar, api.EMerge:
		return true
	case api.EInt:
		return kid.N >= 0 && !(e.Kind == api.EUn && e.Op == api.Neg)
	}
	return false
}

// ctor is the constructor at a place of an expression.
func ctor(e *api.Expr, i int) string {
	if i < len(e.Names) {
		return e.Names[i]
	}
	return ""
}

func truth(n int32) string {
	if n == 0 {
		return "false"
	}
	return "true"
}
