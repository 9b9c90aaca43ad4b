package link

import (
	"slices"

	"cheval/expr"
	"cheval/term"
)

// copyOf is the same term, which shares nothing with it.
func copyOf(t term.Term) term.Term {
	t.Lit = t.Lit.Copy()
	t.Keys = slices.Clone(t.Keys)
	t.Weights = slices.Clone(t.Weights)
	t.Parts = copies(t.Parts, copyOf)
	t.Exprs = copies(t.Exprs, copyOfExpr)
	t.Isos = slices.Clone(t.Isos)
	return t
}

// copyOfExpr is likewise the same expression.
func copyOfExpr(x expr.Expr) expr.Expr {
	x.Lit = x.Lit.Copy()
	x.Args = copies(x.Args, copyOfExpr)
	return x
}

// copies are all of some things, each copied.
func copies[T any](l []T, copyOf func(T) T) []T {
	if len(l) == 0 {
		return nil
	}
	made := make([]T, len(l))
	for at, one := range l {
		made[at] = copyOf(one)
	}
	return made
}
