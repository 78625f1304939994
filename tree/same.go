package tree

import (
	"slices"

	"metronome/api"
)

// SameExpr: are two expressions one, wherever they stand?
func SameExpr(a, b api.Expr) bool { return sameExpr(&a, &b) }

// SameVar: are two variables one?
func SameVar(a, b api.Var) bool { return sameVar(&a, &b) }

// SameEq: are two equations one?
func SameEq(a, b api.Equation) bool { return sameEq(&a, &b) }

// SameBlock: are two blocks one?
func SameBlock(a, b api.Block) bool { return sameBlock(&a, &b) }

// SameNode: are two nodes one?
func SameNode(a, b api.Node) bool { return sameNode(&a, &b) }

// Same: are two programs one, wherever their parts stand?
func Same(a, b api.Program) bool {
	return sameAll(a.Enums, b.Enums, sameEnum) && sameAll(a.Nodes, b.Nodes, sameNode)
}

// sameAll: are two lists one, element by element?
func sameAll[T any](a, b []T, same func(a, b *T) bool) bool {
	if len(a) != len(b) {
		return false
	}
	for i := range a {
		if !same(&a[i], &b[i]) {
			return false
		}
	}
	return true
}

func sameExpr(a, b *api.Expr) bool {
	return a.Kind == b.Kind && a.Op == b.Op && a.N == b.N && a.Name == b.Name &&
		slices.Equal(a.Names, b.Names) && sameAll(a.Kids, b.Kids, sameExpr)
}

func sameVar(a, b *api.Var) bool {
	return a.Name == b.Name && a.T == b.T && slices.Equal(a.Clock, b.Clock) &&
		a.Last == b.Last && sameExpr(&a.First, &b.First)
}

func sameEq(a, b *api.Equation) bool {
	return a.Kind == b.Kind && slices.Equal(a.Lhs, b.Lhs) && a.Name == b.Name &&
		sameAll(a.Args, b.Args, sameExpr) && a.Has == b.Has &&
		sameExpr(&a.E, &b.E) && sameAll(a.Arms, b.Arms, sameArm)
}

func sameArm(a, b *api.Arm) bool {
	return a.Name == b.Name && sameBlock(&a.B, &b.B) &&
		sameAll(a.Unless, b.Unless, sameTrans) && sameAll(a.Until, b.Until, sameTrans)
}

func sameTrans(a, b *api.Trans) bool {
	return sameExpr(&a.E, &b.E) && a.To == b.To && a.Resume == b.Resume
}

func sameBlock(a, b *api.Block) bool {
	return sameAll(a.Vars, b.Vars, sameVar) && sameAll(a.Eqs, b.Eqs, sameEq)
}

func sameEnum(a, b *api.Enum) bool {
	return a.Name == b.Name && slices.Equal(a.Ctors, b.Ctors)
}

func sameNode(a, b *api.Node) bool {
	return a.Name == b.Name && sameAll(a.Ins, b.Ins, sameVar) &&
		sameAll(a.Outs, b.Outs, sameVar) && sameBlock(&a.B, &b.B)
}
