package inits

import "metronome/api"

// late: may an expression be undefined at the first instant? It hangs on its variable, or on its kids; where only the first kid is asked for then, on that one alone.
func late(e *api.Expr, variable func(name string) bool, kid func(i int) bool) bool {
	switch e.Kind {
	case api.EPre:
		return true
	case api.EVar:
		return variable(e.Name)
	case api.EFby, api.EArrow:
		return len(e.Kids) > 0 && kid(0)
	}
	for i := range e.Kids {
		if kid(i) {
			return true
		}
	}
	return false
}

// lates are the names of late variables.
type lates map[string]struct{}

func (l lates) has(name string) bool {
	_, ok := l[name]
	return ok
}

// add puts a name among the others; false: it was there.
func (l lates) add(name string) bool {
	if l.has(name) {
		return false
	}
	l[name] = struct{}{}
	return true
}

// numbers are the indices of the variables that a block declares.
type numbers map[string]int

func (n numbers) has(name string) bool {
	_, ok := n[name]
	return ok
}

func numbered(l []api.Var) numbers {
	n := numbers{}
	for i := range l {
		n[l[i].Name] = i
	}
	return n
}

// find adds the late variables of a block to those of the blocks around it. An expression is late as soon as one of the variables is that it hangs on, so that each definition is read once: what isn't late by then waits for those.
func (l lates) find(b *api.Block, own numbers) {
	s := &search{late: l, vars: b.Vars, own: own, waiting: make([][]int, len(b.Vars))}
	for i := range b.Eqs {
		q := &b.Eqs[i]
		if q.Kind == api.QDef {
			s.define(q)
		}
	}
}

// search looks for the late variables of a block.
type search struct {
	late    lates
	vars    []api.Var
	own     numbers
	waiting [][]int // by a variable of the block: those that are late if it is
}

// define reads the definition of a variable. Of those of the blocks around nothing is to be found out.
func (s *search) define(q *api.Equation) {
	for _, name := range q.Lhs {
		if v, ok := s.own[name]; ok && s.expr(&q.E, v) {
			s.found(v)
		}
	}
}

// expr: is an expression late, as far as is known? If not, a variable waits for those that it hangs on.
func (s *search) expr(e *api.Expr, v int) bool {
	variable := func(name string) bool {
		if s.late.has(name) {
			return true
		}
		if of, ok := s.own[name]; ok {
			s.waiting[of] = append(s.waiting[of], v)
		}
		return false
	}
	return late(e, variable, func(i int) bool { return s.expr(&e.Kids[i], v) })
}

// found adds a variable, and those that have waited for it.
func (s *search) found(v int) {
	for todo := []int{v}; len(todo) > 0; {
		v = todo[len(todo)-1]
		todo = todo[:len(todo)-1]
		if s.late.add(s.vars[v].Name) {
			todo = append(todo, s.waiting[v]...)
		}
	}
}
