package link

import (
	"slices"

	"cheval/api"
	"cheval/expr"
	"cheval/glyph"
	"cheval/sorts"
	"cheval/term"
	"cheval/value"
)

const (
	mostParts  = 64 // of a Pick
	mostWeight = 1000
)

// wrong is the first error of a term that isn't right, or of its parts, where the vars of its scope are known.
func (g *Grammar) wrong(t term.Term, scope []string) api.Errno {
	if e := g.wrongAlone(t, scope); e != api.OK {
		return e
	}
	for at, part := range t.Parts {
		if e := g.wrong(part, scopeOf(t, at, scope)); e != api.OK {
			return e
		}
	}
	return api.OK
}

// scopeOf is the scope of a term's part.
func scopeOf(t term.Term, at int, scope []string) []string {
	// An environment has each name once.
	if t.Kind != term.Bind || at == 0 || slices.Contains(scope, t.Name) {
		return scope
	}
	return append(scope, t.Name)
}

// wrongAlone is the first error of a term, its parts left aside.
func (g *Grammar) wrongAlone(t term.Term, scope []string) api.Errno {
	integer, truth := sorts.Of(value.Number(0)), sorts.Of(value.Truth(true))
	switch t.Kind {
	case term.Range, term.List:
		return wrongExprs(t.Exprs, environment(0, scope), integer)
	case term.Pick:
		return wrongPick(t)
	case term.Record:
		return wrongKeys(t.Keys)
	case term.Text:
		if e := wrongLetters(t.Lit.Str); e != api.OK {
			return e
		}
		return wrongExprs(t.Exprs, environment(0, scope), integer)
	case term.Ref:
		return g.wrongName(t.Name)
	case term.Bind:
		return wrongBind(t)
	case term.Where:
		return wrongExprs(t.Exprs, environment(sorts.All, scope), truth)
	}
	return api.OK
}

// environment is that of this, and of vars that may be anything.
func environment(this sorts.Sorts, scope []string) sorts.Env {
	return sorts.Env{This: this, Names: scope, Sorts: slices.Repeat([]sorts.Sorts{sorts.All}, len(scope))}
}

// wrongExprs is the first error of expressions that must be able to have some sorts.
func wrongExprs(l []expr.Expr, env sorts.Env, must sorts.Sorts) api.Errno {
	for _, x := range l {
		may, e := sorts.Check(x, env)
		switch {
		case e != api.OK:
			return e
		case may&must == 0:
			return api.ErrKind
		}
	}
	return api.OK
}

// wrongPick is a Pick's error.
func wrongPick(t term.Term) api.Errno {
	if len(t.Parts) > mostParts || slices.ContainsFunc(t.Weights, isNoWeight) {
		return api.ErrRange
	}
	return api.OK
}

// isNoWeight: is a number none?
func isNoWeight(n int) bool {
	return n < 1 || mostWeight < n
}

// wrongKeys is the error of a Record's keys.
func wrongKeys(keys []string) api.Errno {
	if twice(keys) >= 0 {
		return api.ErrTwice
	}
	return api.OK
}

// wrongLetters is the error of what a Text draws its points from.
func wrongLetters(s string) api.Errno {
	if s == "" {
		return api.ErrEmpty
	}
	points, _ := glyph.Points(s)
	if twice(points) >= 0 {
		return api.ErrTwice
	}
	return api.OK
}

// wrongName is the error of what a Ref names.
func (g *Grammar) wrongName(name string) api.Errno {
	if _, ok := g.terms[name]; !ok {
		return api.ErrName
	}
	return api.OK
}

// wrongBind is a Bind's error.
func wrongBind(t term.Term) api.Errno {
	e := wrongExprs(t.Exprs, environment(sorts.All, nil), sorts.All)
	switch {
	case e != api.OK:
		return e
	case len(t.Parts) > 0 && hasRef(t.Parts[0]):
		return api.ErrForm
	}
	return api.OK
}

// hasRef: does a Ref stand in a term, at any depth?
func hasRef(t term.Term) bool {
	return t.Kind == term.Ref || slices.ContainsFunc(t.Parts, hasRef)
}

// twice is the place of the first thing that stood ahead already; -1, if each stands once.
func twice[T comparable](l []T) int {
	seen := map[T]struct{}{}
	for at, one := range l {
		if _, ok := seen[one]; ok {
			return at
		}
		seen[one] = struct{}{}
	}
	return -1
}
