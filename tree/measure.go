package tree

import "metronome/api"

// Size: how many expressions one has, itself too.
func Size(e api.Expr) int { return size(&e) }

// Depth: how deeply an expression is nested: 1, if it has no kids.
func Depth(e api.Expr) int { return depth(&e) }

// BlockSize: how many variables, equations, arms, ways out and expressions a block has.
func BlockSize(b api.Block) int { return blockSize(&b) }

// BlockDepth: how deeply a block is nested: blocks, and the expressions in them.
func BlockDepth(b api.Block) int { return blockDepth(&b) }

// Stateless: has an expression neither fby, pre nor ->?
func Stateless(e api.Expr) bool {
	stateless := true
	walk(&e, func(e *api.Expr) {
		switch e.Kind {
		case api.EFby, api.EPre, api.EArrow:
			stateless = false
		}
	})
	return stateless
}

// Const: is an expression a constant?
func Const(e api.Expr) bool {
	switch e.Kind {
	case api.EInt, api.EBool, api.ECtor:
		return true
	}
	return false
}

func size(e *api.Expr) int {
	n := 0
	walk(e, func(*api.Expr) { n++ })
	return n
}

func depth(e *api.Expr) int {
	most := 0
	for i := range e.Kids {
		most = max(most, depth(&e.Kids[i]))
	}
	return 1 + most
}

func blockSize(b *api.Block) int {
	n := len(b.Vars) + len(b.Eqs)
	blockExprs(b, func(e *api.Expr) { n += size(e) })
	blockArms(b, func(a *api.Arm) {
		n += 1 + len(a.Unless) + len(a.Until) + blockSize(&a.B)
	})
	return n
}

func blockDepth(b *api.Block) int {
	most := 0
	blockExprs(b, func(e *api.Expr) { most = max(most, depth(e)) })
	blockArms(b, func(a *api.Arm) { most = max(most, blockDepth(&a.B)) })
	return 1 + most
}
