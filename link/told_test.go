package link

import (
	"fmt"
	"math/big"
	"math/rand"
	"slices"
	"strings"
	"testing"

	"cheval/api"
	"cheval/expr"
	"cheval/sorts"
	"cheval/term"
	"cheval/value"
)

// turn: one step on the way down to a term: the term around it, and which of its parts it leads into.
type turn struct {
	around term.Term
	at     int
}

// node: a term that stands in a definition's, and the way down to it.
type node struct {
	t   term.Term
	way []turn
}

// nodes are a term and all that stand in it, each ahead of its parts: without a call in itself, by a stack.
func nodes(t term.Term) []node {
	var all []node
	stack := []node{{t: t}}
	for len(stack) > 0 {
		n := stack[len(stack)-1]
		stack = stack[:len(stack)-1]
		all = append(all, n)
		for at := len(n.t.Parts) - 1; at >= 0; at-- {
			stack = append(stack, node{n.t.Parts[at], slices.Concat(n.way, []turn{{n.t, at}})})
		}
	}
	return all
}

// scope is a node's, for an expression where this has sorts.
func (n node) scope(this sorts.Sorts) sorts.Env {
	names := map[string]bool{}
	for _, w := range n.way {
		if w.around.Kind == 8 && w.at == 1 {
			names[w.around.Name] = true
		}
	}
	env := sorts.Env{This: this}
	for name := range names {
		env.Names, env.Sorts = append(env.Names, name), append(env.Sorts, 63)
	}
	return env
}

// guarded: is one of those around it a Tuple, a Record, a List?
func (n node) guarded() bool {
	return slices.ContainsFunc(n.way, func(w turn) bool { return 3 <= w.around.Kind && w.around.Kind <= 5 })
}

// exprs is the first error of a node's expressions, which must be able to be of one of some sorts.
func (n node) exprs(env sorts.Env, must sorts.Sorts) api.Errno {
	for _, x := range n.t.Exprs {
		s, e := sorts.Check(x, env)
		if e != 0 {
			return e
		}
		if s&must == 0 {
			return 9
		}
	}
	return 0
}

// wrong is the error of a node by itself, by the words of the chapter, where definitions have names.
func (n node) wrong(names []string) api.Errno {
	t := n.t
	switch t.Kind {
	case 1, 5:
		return n.exprs(n.scope(0), 4)
	case 2:
		if len(t.Parts) > 64 {
			return 8
		}
		for _, w := range t.Weights {
			if w <= 0 || w >= 1001 {
				return 8
			}
		}
	case 4:
		return repeated(t.Keys)
	case 6:
		if t.Lit.Str == "" {
			return 20
		}
		if e := repeated(strings.Split(t.Lit.Str, "")); e != 0 {
			return e
		}
		return n.exprs(n.scope(0), 4)
	case 7:
		if !slices.Contains(names, t.Name) {
			return 13
		}
	case 8:
		if e := n.exprs(sorts.Env{This: 63}, 63); e != 0 {
			return e
		}
		for _, below := range nodes(t.Parts[0]) {
			if below.t.Kind == 7 {
				return 1
			}
		}
	case 9:
		return n.exprs(n.scope(63), 2)
	}
	return 0
}

// repeated is ErrTwice, if two of some texts are the same.
func repeated(l []string) api.Errno {
	for at := range l {
		for before := range at {
			if l[at] == l[before] {
				return 5
			}
		}
	}
	return 0
}

// told is what the words of the chapter tell of definitions: the error and its definition's number, or the width.
func told(l []term.Def) (width, number int, e api.Errno) {
	if len(l) >= 65 {
		return 0, 64, 22
	}
	var names []string
	for at, d := range l {
		if slices.Contains(names, d.Name) {
			return 0, at, 5
		}
		names = append(names, d.Name)
	}
	for at, d := range l {
		for _, n := range nodes(d.Term) {
			if e := n.wrong(names); e != 0 {
				return 0, at, e
			}
		}
	}
	if at := loop(l, names); at >= 0 {
		return 0, at, 14
	}
	for at, wide := range widths(l, names) {
		if wide.Cmp(big.NewInt(1000)) > 0 {
			return 0, at, 15
		}
		width = max(width, int(wide.Int64()))
	}
	return width, 0, 0
}

// loop is the first definition that leads on to itself, by a matrix; -1, if none does.
func loop(l []term.Def, names []string) int {
	leads := make([][]bool, len(l))
	for at, d := range l {
		leads[at] = make([]bool, len(l))
		for _, n := range nodes(d.Term) {
			if n.t.Kind == 7 && !n.guarded() {
				leads[at][slices.Index(names, n.t.Name)] = true
			}
		}
	}
	for over := range l {
		for from := range l {
			for to := range l {
				leads[from][to] = leads[from][to] || leads[from][over] && leads[over][to]
			}
		}
	}
	return slices.IndexFunc(names, func(name string) bool {
		at := slices.Index(names, name)
		return leads[at][at]
	})
}

// widths are those of definitions that don't loop, by numbers without end: as many rounds as there are definitions fill them in.
func widths(l []term.Def, names []string) []*big.Int {
	made := make([]*big.Int, len(l))
	for at := range l {
		made[at] = new(big.Int)
	}
	all := make([][]node, len(l))
	for at, d := range l {
		all[at] = nodes(d.Term)
	}
	for range l {
		next := make([]*big.Int, len(l))
		for at := range l {
			next[at] = big.NewInt(int64(len(all[at])))
			for _, n := range all[at] {
				if n.t.Kind == 7 && !n.guarded() {
					next[at].Add(next[at], made[slices.Index(names, n.t.Name)])
				}
			}
		}
		made = next
	}
	return made
}

// check: do all calls agree with the words on definitions?
func check(t *testing.T, l []term.Def) (int, api.Errno) {
	t.Helper()
	width, number, e := told(l)
	checkAnswer(t, l, width, number, e)
	return width, e
}

// checkAnswer: is Link's answer what is told, and does what it answers tell the definitions?
func checkAnswer(t *testing.T, l []term.Def, width, number int, e api.Errno) {
	t.Helper()
	g, gotNumber, gotE := Link(l)
	if (g == nil) != (e != 0) || gotNumber != number || gotE != e {
		t.Errorf("P14.1: Link(%.300q): %v, %d, %d; want %d, %d", term.Print(l), g, gotNumber, gotE, number, e)
		return
	}
	if g != nil {
		checkGrammar(t, g, l, width)
	}
}

// checkGrammar: is a grammar that of definitions?
func checkGrammar(t *testing.T, g *Grammar, l []term.Def, width int) {
	t.Helper()
	text := term.Print(l)
	if g.Width() != width || g.Text() != text {
		t.Errorf("P14.1: of %.300q: Width %d, Text %.300q; want %d", text, g.Width(), g.Text(), width)
	}
	names := g.Names()
	for at, d := range l {
		found, ok := g.Find(d.Name)
		if at >= len(names) || names[at] != d.Name || !ok || !term.Same(found, d.Term) {
			t.Errorf("P14.1: of %.300q: Names %q, Find(%q) %q, %v", text, names, d.Name, found.Text(), ok)
		}
	}
	for _, name := range []string{"", " ", "zz", "a ", "A_", "just", "\xff"} {
		if slices.Contains(names, name) {
			continue
		}
		if found, ok := g.Find(name); ok || !term.Same(found, term.Term{}) {
			t.Errorf("P14.1: of %.300q: Find(%q) %q, %v", text, name, found.Text(), ok)
		}
	}
	if len(names) != len(l) {
		t.Errorf("P14.1: of %.300q: Names %q", text, names)
	}
}

// checkText: does Read go by chapter 13, and then by Link?
func checkText(t *testing.T, s string) {
	t.Helper()
	l, place, e := term.Parse(s)
	width := 0
	if e == 0 {
		width, place, e = told(l)
	}
	g, gotPlace, gotE := Read(s)
	if (g == nil) != (e != 0) || gotPlace != place || gotE != e {
		t.Errorf("P14.1: Read(%.300q): %v, %d, %d; want %d, %d", s, g, gotPlace, gotE, place, e)
		return
	}
	if g != nil {
		checkGrammar(t, g, l, width)
	}
	if len(l) > 0 {
		check(t, l)
	}
}

// defs are a text's definitions.
func defs(t testing.TB, s string) []term.Def {
	t.Helper()
	l, place, e := term.Parse(s)
	if e != api.OK {
		t.Fatalf("Parse(%.300q): %d, %d", s, place, e)
	}
	return l
}

// pieces are short terms, most of which aren't right by themselves, or together.
var pieces = strings.Split(`just 0|just "a"|[]|{}|a|b|c|[a]|[b]|[c]|{"k": a}|list(b, 0, 1)|pick(a)|pick(just 0, b)|pick(just 0, [a])|pick(2: a, 1000: c)|pick(0: a)|pick(1001: [b])|pick([a], pick([b], c))|[pick(a, b)]|where(a, this)|where(b, 1)|where([c], n)|map(neg, a)|map(box, [b])|int(0, 1)|int(n, 0)|int("a", n)|int(0, this)|text("ab", 0, n)|text("", n, 0)|text("aba", 0, 1)|list(a, 0, "a")|{"k": a, "k": b}|{"k": a, "l": b}|let n = just 0 from this in int(0, n)|let n = just 0 from this in a|let n = just 0 from n in b|let n = a from this in b|let n = [just 0] from 0 in [b]|let n = int(0, n) from 0 in c|let m = just 0 from 0 in let n = int(0, m) from 0 in pick(a, int(m, n))|let n = let m = just 0 from 0 in int(0, m) from 0 in list(c, n, m)|[let n = just 0 from 0 in where(just 1, this == n), where(a, n)]`, "|")

// permuted hands on all orders of definitions.
func permuted(l []term.Def, do func(l []term.Def)) {
	var lay func(made, left []term.Def)
	lay = func(made, left []term.Def) {
		if len(left) == 0 {
			do(made)
		}
		for at := range left {
			lay(slices.Concat(made, left[at:at+1]), slices.Concat(left[:at], left[at+1:]))
		}
	}
	lay(nil, l)
}

// checkOrders: may definitions be a grammar in all orders, or in none, and with one width?
func checkOrders(t *testing.T, l []term.Def) {
	t.Helper()
	width, _, e := told(l)
	permuted(l, func(l []term.Def) {
		g, _, gotE := Link(l)
		if (gotE == 0) != (e == 0) || gotE == 0 && g.Width() != width {
			t.Errorf("P14.2: Link(%q): %d", term.Print(l), gotE)
		}
	})
}

func TestSmallGrammars(t *testing.T) { // P14.1 and P14.2
	met := map[api.Errno]int{}
	for _, one := range pieces {
		l := defs(t, "a = "+one+";")
		_, e := check(t, l)
		met[e]++
		for _, two := range pieces {
			l := defs(t, "a = "+one+"; b = "+two+";")
			_, e := check(t, l)
			met[e]++
			checkOrders(t, l)
			check(t, defs(t, "a = "+one+"; a = "+two+";"))
			check(t, defs(t, "b = "+one+"; c = "+two+";"))
			for at, three := range pieces {
				if testing.Short() && at%7 != 0 {
					continue
				}
				l := defs(t, "a = "+one+"; b = "+two+"; c = "+three+";")
				_, e := check(t, l)
				met[e]++
				if at%5 == 0 {
					checkOrders(t, l)
				}
			}
		}
	}
	for _, e := range []api.Errno{api.OK, api.ErrForm, api.ErrTwice, api.ErrRange, api.ErrKind, api.ErrName, api.ErrLoop, api.ErrEmpty} {
		if met[e] < 100 {
			t.Errorf("the error %d was met %d times", e, met[e])
		}
	}
}

// What definitions are drawn of: the first ones of each are right, wherever they stand; the vars are asked of the scope.
var (
	drawnNames = []string{"a", "b", "c", "d", "e", "len", "or", "A_9"}
	drawnVars  = []string{"n", "m", "x", "in_"}
	drawnInts  = []string{"0", "3", "-1", "1 + 2", "len(\"a\")", "%s", "%s + 1", "len(%s)", "%s.k", "%s[0] * 2", "true", "\"a\"", "this", "%s == 1", "n", "m - x", "-\"a\"", "null"}
	drawnTests = []string{"true", "this", "this == 1", "this.k < 3", "not this", "%s", "%s == this", "all(%s)", "this[%s] != %s", "1", "len(this)", "this + 1", "n", "x == m", "\"a\" < 1", "null"}
	drawnFroms = []string{"this", "0", "this.k", "keys(this)", "this[0] + 1", "null", "true", "n", "x + 1", "-\"a\"", "len(1)"}
	drawnTexts = []string{"ab", "a", "xyz", "\u00e9\u00ea", "\U0001F600\U0001F601", "", "aa", "\u00e9a\u00e9", "\x00\n"}
)

// drawer: what definitions are drawn by.
type drawer struct {
	*rand.Rand
	names []string // of the definitions
	later []string // of those that a reference that isn't guarded may name without a loop
	wrong int      // one of so many things isn't right
}

func some[T any](d *drawer, l []T) T { return l[d.Intn(len(l))] }

// errs: is the next thing wrong?
func (d *drawer) errs() bool { return d.Intn(d.wrong) == 0 }

// expr is one of some expressions, of which so many are right wherever they stand, and the ones with %s where there is a scope.
func (d *drawer) expr(t testing.TB, l []string, right int, scope []string) expr.Expr {
	s := l[d.Intn(right)]
	if d.errs() {
		s = some(d, l)
	}
	if strings.Contains(s, "%s") {
		if len(scope) == 0 && !d.errs() {
			s = l[0]
		}
		name := some(d, drawnVars)
		if len(scope) > 0 {
			name = some(d, scope)
		}
		s = strings.ReplaceAll(s, "%s", name)
	}
	x, place, e := expr.Parse(s)
	if e != 0 {
		t.Fatalf("Parse(%q): %d, %d", s, place, e)
	}
	return x
}

// term is a term of at most so many levels.
func (d *drawer) term(t testing.TB, deep int, scope []string, guarded, first bool) term.Term {
	made := term.Term{Kind: d.Intn(11)}
	if deep <= 1 {
		made.Kind = []int{0, 1, 6, 7, 7, 7}[d.Intn(6)]
	}
	if first && made.Kind == 7 && !d.errs() {
		made.Kind = 0
	}
	parts, exprs := 0, 0
	switch made.Kind {
	case 0:
		made.Lit = value.Number(int64(d.Intn(9)))
	case 1:
		exprs = 2
	case 2:
		parts = 1 + d.Intn(3)
		for range parts {
			made.Weights = append(made.Weights, 1+d.Intn(1000))
		}
		if d.errs() {
			made.Weights[0] = []int{0, 1001, 1 << 62, 1 << 32}[d.Intn(4)]
		}
	case 3:
		parts = d.Intn(4)
	case 4:
		parts = d.Intn(4)
		for at := range parts {
			made.Keys = append(made.Keys, fmt.Sprint(at))
		}
		if parts > 0 && d.errs() {
			made.Keys[parts-1] = "0"
		}
	case 5:
		parts, exprs = 1, 2
	case 6:
		made.Lit, exprs = value.Text(drawnTexts[d.Intn(5)]), 2
		if d.errs() {
			made.Lit = value.Text(some(d, drawnTexts))
		}
	case 7:
		made.Name = d.name(guarded)
	case 8:
		return d.bind(t, deep, scope, guarded, first)
	case 9:
		parts = 1
		made.Exprs = []expr.Expr{d.expr(t, drawnTests, 9, scope)}
	case 10:
		parts = 1
		made.Isos = defs(t, "a = map(plus 2 | show, b);")[0].Term.Isos
	}
	guarded = guarded || 3 <= made.Kind && made.Kind <= 5
	for range parts {
		made.Parts = append(made.Parts, d.term(t, deep-1, scope, guarded, first))
	}
	for range exprs {
		made.Exprs = append(made.Exprs, d.expr(t, drawnInts, 10, scope))
	}
	return made
}

// name is what a reference names.
func (d *drawer) name(guarded bool) string {
	switch {
	case d.errs():
		return some(d, drawnNames)
	case guarded || len(d.later) == 0:
		return some(d, d.names)
	}
	return some(d, d.later)
}

// bind is a Bind.
func (d *drawer) bind(t testing.TB, deep int, scope []string, guarded, first bool) term.Term {
	made := term.Term{Kind: 8, Name: some(d, drawnVars)}
	made.Exprs = []expr.Expr{d.expr(t, drawnFroms, 7, nil)}
	inner := slices.Concat(scope, []string{made.Name})
	made.Parts = []term.Term{d.term(t, deep-1, scope, guarded, true), d.term(t, deep-1, inner, guarded, first)}
	return made
}

// drawnDefs are some definitions, in any order; of so many things about one isn't right.
func drawnDefs(t testing.TB, random *rand.Rand, wrong int) []term.Def {
	d := &drawer{Rand: random, wrong: wrong}
	many := 1 + random.Intn(6)
	for _, at := range random.Perm(len(drawnNames))[:many] {
		d.names = append(d.names, drawnNames[at])
	}
	var l []term.Def
	for at, name := range d.names {
		d.later = d.names[at+1:]
		made := d.term(t, 1+random.Intn(5), nil, false, false)
		// Of the last one no later one is there: what isn't guarded leads nowhere then.
		if at == many-1 && !d.errs() {
			made = term.Term{Kind: 3, Parts: []term.Term{made}}
		}
		l = append(l, term.Def{Name: name, Term: made})
	}
	if random.Intn(8) == 0 && d.errs() {
		l[0].Name = l[many-1].Name
	}
	random.Shuffle(many, func(a, b int) { l[a], l[b] = l[b], l[a] })
	return l
}

func TestDrawnGrammars(t *testing.T) { // P14.1 and P14.2
	random := rand.New(rand.NewSource(14))
	met, wide := map[api.Errno]int{}, map[int]int{}
	for _, wrong := range []int{4, 12, 40, 400} {
		for range 4000 {
			l := drawnDefs(t, random, wrong)
			width, e := check(t, l)
			met[e]++
			wide[width]++
			if len(l) <= 4 {
				checkOrders(t, l)
			}
			if s := term.Print(l); len(s) <= api.MaxGrammar {
				checkText(t, s)
			}
			checkRenamed(t, l)
		}
	}
	for _, e := range []api.Errno{api.OK, api.ErrForm, api.ErrTwice, api.ErrRange, api.ErrKind, api.ErrName, api.ErrLoop, api.ErrEmpty} {
		if met[e] < 50 {
			t.Errorf("the error %d was met %d times", e, met[e])
		}
	}
	if len(wide) < 30 {
		t.Errorf("%d widths alone were met", len(wide))
	}
}

// checkRenamed: is all the same of definitions with other names, but the names?
func checkRenamed(t *testing.T, l []term.Def) {
	t.Helper()
	var other []term.Def
	for _, d := range l {
		other = append(other, term.Def{Name: "zz" + d.Name, Term: renamed(d.Term)})
	}
	g, number, e := Link(l)
	h, otherNumber, otherE := Link(other)
	if number != otherNumber || e != otherE || g != nil && g.Width() != h.Width() {
		t.Errorf("P6: with other names %q is told of otherwise: %d, %d; want %d, %d", term.Print(l), otherNumber, otherE, number, e)
	}
}

// renamed is a term with other names of definitions.
func renamed(t term.Term) term.Term {
	if t.Kind == 7 {
		t.Name = "zz" + t.Name
	}
	parts := t.Parts
	t.Parts = nil
	for _, part := range parts {
		t.Parts = append(t.Parts, renamed(part))
	}
	return t
}

func FuzzTexts(f *testing.F) {
	for _, one := range pieces {
		f.Add("a = " + one + "; b = [a]; c = pick(just 0, b);")
	}
	for s := range wrongTexts {
		f.Add(s)
	}
	f.Fuzz(func(t *testing.T, s string) {
		checkText(t, s)
		if l, _, e := term.Parse(s); e == 0 && len(l) <= 4 {
			checkOrders(t, l)
		}
	})
}
