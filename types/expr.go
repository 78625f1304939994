package types

import (
	"slices"

	"metronome/api"
	"metronome/nums"
	"metronome/tree"
)

// mustBe checks an expression, and that it is of a type.
func (c *checker) mustBe(e *api.Expr, t api.Type) {
	c.must(c.expr(e) == t, e.At)
}

// expr checks an expression, its kids first, and returns its type.
func (c *checker) expr(e *api.Expr) api.Type {
	kids := make([]api.Type, len(e.Kids))
	for i := range e.Kids {
		kids[i] = c.expr(&e.Kids[i])
	}
	t, ok := c.own(e, kids)
	c.must(ok, e.At)
	return t
}

// own is the type that an expression has by those of its kids; false: it has none.
func (c *checker) own(e *api.Expr, kids []api.Type) (api.Type, bool) {
	t, alike := common(kids)
	switch e.Kind {
	case api.EInt:
		return integer, true
	case api.EBool:
		return boolean, true
	case api.ECtor:
		return c.owner(e.Name)
	case api.EVar, api.ELast:
		of, visible := c.vars[e.Name]
		return of, visible
	case api.EUn, api.EBin:
		from, to := nums.Types(e.Op)
		return api.Type{Kind: to}, alike && (from == 0 || from == t.Kind)
	case api.EIf:
		return choice(kids)
	case api.EFby, api.EPre, api.EArrow:
		return t, alike
	case api.EWhen:
		return t, alike && c.samples(e)
	case api.EMerge:
		return t, alike && c.covers(e)
	}
	return api.Type{}, false
}

// common is the one type that all have; false: there is none.
func common(l []api.Type) (api.Type, bool) {
	if len(l) == 0 {
		return api.Type{}, false
	}
	for _, t := range l {
		if t != l[0] {
			return api.Type{}, false
		}
	}
	return l[0], true
}

// choice is the type of an if by those of its condition and its branches.
func choice(kids []api.Type) (api.Type, bool) {
	if len(kids) == 0 || kids[0] != boolean {
		return api.Type{}, false
	}
	return common(kids[1:])
}

// owner is the type that a constructor belongs to.
func (c *checker) owner(ctor string) (api.Type, bool) {
	i := tree.CtorEnum(c.p.Enums, ctor)
	if i < 0 {
		return api.Type{}, false
	}
	return api.Type{Kind: api.TEnum, Name: c.p.Enums[i].Name}, true
}

// samples: can an EWhen sample its kid as it does?
func (c *checker) samples(e *api.Expr) bool {
	return len(e.Names) > 0 && c.has(e.Name, e.Names[0]) && tree.Stateless(e.Kids[0])
}

// has: has the type of a variable a constructor?
func (c *checker) has(name, ctor string) bool {
	return slices.Contains(tree.Ctors(c.p.Enums, c.vars[name]), ctor)
}

// covers: has an EMerge each constructor of its variable's type once, and no other one?
func (c *checker) covers(e *api.Expr) bool {
	left := c.ctors(c.vars[e.Name])
	for _, ctor := range e.Names {
		if !left.take(ctor) {
			return false
		}
	}
	return len(left) == 0
}

// rest is the constructors of a type that are still to be taken.
type rest map[string]struct{}

// ctors are all constructors of a type.
func (c *checker) ctors(t api.Type) rest {
	all := rest{}
	for _, ctor := range tree.Ctors(c.p.Enums, t) {
		all[ctor] = struct{}{}
	}
	return all
}

// take takes a constructor; false: it was taken, or is none of the type.
func (r rest) take(ctor string) bool {
	_, ok := r[ctor]
	delete(r, ctor)
	return ok
}
