package inits

import "metronome/api"

// defined checks an expression that must be defined at the first instant.
func (c *checker) defined(e *api.Expr) {
	c.must(!c.interior(e), e.At)
}

// interior checks what an expression reads of an instant ago, or of the first one, its kids ahead of itself, and tells whether it is late.
func (c *checker) interior(e *api.Expr) bool {
	kids := make([]bool, len(e.Kids)) // which ones are late
	for i := range e.Kids {
		kids[i] = c.interior(&e.Kids[i])
	}
	switch e.Kind {
	case api.EFby:
		c.must(len(kids) < 2 || !kids[1], e.At)
	case api.EPre, api.EArrow:
		c.must(len(kids) < 1 || !kids[0], e.At)
	case api.EWhen, api.EMerge:
		c.must(!c.late.has(e.Name), e.At)
	}
	return late(e, c.late.has, func(i int) bool { return kids[i] })
}
