package tree

import "metronome/api"

// Reads: the variables that an expression reads at once, in their order, each once: not what stands behind a fby or a pre.
func Reads(e api.Expr) []string {
	var found once
	read(&e, false, found.add)
	return found.list
}

// All: the variables that an expression reads at once, or later.
func All(e api.Expr) []string {
	var found once
	read(&e, true, found.add)
	return found.list
}

// Lasts: the variables whose last values an expression reads.
func Lasts(e api.Expr) []string {
	var found once
	walk(&e, func(e *api.Expr) {
		if e.Kind == api.ELast {
			found.add(e.Name)
		}
	})
	return found.list
}

// Defines: the variables that an equation defines, in their order, each once, but for those that its arms have for themselves.
func Defines(q api.Equation) []string {
	var found once
	defines(&q, found.add)
	return found.list
}

// BlockDefines: the variables that a block defines, but for its own.
func BlockDefines(b api.Block) []string { return blockDefines(&b) }

// Calls: the nodes that a block calls, in their order, each once.
func Calls(b api.Block) []string {
	var found once
	blockEqs(&b, func(q *api.Equation) {
		if q.Kind == api.QCall {
			found.add(q.Name)
		}
	})
	return found.list
}

// read finds the variables that an expression reads, in their order; those behind a fby or a pre only if later.
func read(e *api.Expr, later bool, found func(string)) {
	if e.Kind == api.EVar || e.Kind == api.EMerge {
		found(e.Name)
	}
	for i := range e.Kids {
		if later || !behind(e.Kind, i) {
			read(&e.Kids[i], later, found)
		}
	}
	if e.Kind == api.EWhen {
		found(e.Name)
	}
}

// behind: is a kid of an expression one whose value comes out only later?
func behind(kind byte, kid int) bool {
	return kind == api.EPre || kind == api.EFby && kid == 1
}

// defines finds the variables that an equation defines. By the document's
// rules a field that a kind of equation doesn't use is ignored: what has arms
// has nothing on its left.
func defines(q *api.Equation, found func(string)) {
	switch q.Kind {
	case api.QSwitch, api.QAuto, api.QReset:
	default:
		for _, name := range q.Lhs {
			found(name)
		}
	}
	arms(q, func(a *api.Arm) {
		for _, name := range blockDefines(&a.B) {
			found(name)
		}
	})
}

func blockDefines(b *api.Block) []string {
	var found once
	each(b.Vars, func(v *api.Var) { found.skip(v.Name) })
	each(b.Eqs, func(q *api.Equation) { defines(q, found.add) })
	return found.list
}

// once is a list of names in the order in which they were added first, each once.
type once struct {
	list []string
	seen map[string]struct{}
}

// add puts a name at the end, unless it was added or skipped before.
func (o *once) add(name string) {
	if _, ok := o.seen[name]; !ok {
		o.skip(name)
		o.list = append(o.list, name)
	}
}

// skip keeps a name out of the list.
func (o *once) skip(name string) {
	if o.seen == nil {
		o.seen = map[string]struct{}{}
	}
	o.seen[name] = struct{}{}
}
