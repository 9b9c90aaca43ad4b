package sorts

import (
	"math"
	"math/rand"
	"reflect"
	"slices"
	"strings"
	"testing"

	"cheval/api"
	"cheval/expr"
	"cheval/value"
)

// The samples are written field by field, so that they don't hang on the calls of another package.

func lit(v value.Value) expr.Expr { return expr.Expr{Op: "lit", Lit: v} }
func this() expr.Expr             { return expr.Expr{Op: "this"} }
func name(s string) expr.Expr     { return expr.Expr{Op: "var", Name: s} }
func get(e expr.Expr, key string) expr.Expr {
	return expr.Expr{Op: "get", Name: key, Args: []expr.Expr{e}}
}
func op(sign string, args ...expr.Expr) expr.Expr  { return expr.Expr{Op: sign, Args: args} }
func env(this Sorts, names string, l ...Sorts) Env { return Env{this, strings.Fields(names), l} }

// The values of each kind, in the order of the kinds.
var byKind = [6][]value.Value{
	{{Kind: 0}},
	{{Kind: 1}, {Kind: 1, Bool: true}},
	{{Kind: 2}, {Kind: 2, Int: 1}, {Kind: 2, Int: -1}, {Kind: 2, Int: math.MaxInt64}, {Kind: 2, Int: math.MinInt64}},
	{{Kind: 3}, {Kind: 3, Str: "a"}, {Kind: 3, Str: "null"}, {Kind: 3, Str: "1"}},
	{{Kind: 4}, {Kind: 4, Items: []value.Value{{}}}, {Kind: 4, Items: []value.Value{{Kind: 2, Int: 1}, {Kind: 3, Str: "a"}, {Kind: 5}}}},
	{{Kind: 5}, {Kind: 5, Keys: []string{"a"}, Items: []value.Value{{}}}, {Kind: 5, Keys: []string{"a", "b"}, Items: []value.Value{{Kind: 4}, {Kind: 1, Bool: true}}}},
}

// The kinds' words, in the order of the kinds, and of each the number that the document says.
var (
	words   = strings.Fields("null bool int text list object")
	numbers = map[string]Sorts{"null": 1, "bool": 2, "int": 4, "text": 8, "list": 16, "object": 32}
)

// rule: the words of what is made, and of the kinds that the Args may be of: each way to be so.
type rule struct {
	made string
	ways []string
}

// rules are those of all Ops that aren't leaves, by the words of the document.
var rules = map[string]rule{
	"get": {"null bool int text list object", []string{"object"}}, "at": {"null bool int text list object", []string{"list int"}},
	"or": {"bool", []string{"bool bool"}}, "and": {"bool", []string{"bool bool"}}, "not": {"bool", []string{"bool"}},
	"==": {"bool", each(words...)}, "!=": {"bool", each(words...)},
	"<": {"bool", []string{"int int", "text text"}}, "<=": {"bool", []string{"int int", "text text"}}, ">": {"bool", []string{"int int", "text text"}}, ">=": {"bool", []string{"int int", "text text"}},
	"+": {"int", []string{"int int"}}, "-": {"int", []string{"int int"}}, "*": {"int", []string{"int int"}}, "/": {"int", []string{"int int"}}, "%": {"int", []string{"int int"}}, "neg": {"int", []string{"int"}},
	"len": {"int", []string{"text", "list", "object"}}, "sum": {"int", []string{"list"}}, "min": {"int", []string{"list"}}, "max": {"int", []string{"list"}},
	"all": {"bool", []string{"list"}}, "any": {"bool", []string{"list"}}, "keys": {"list", []string{"object"}},
	"has": {"bool", []string{"object text"}}, "count": {"int", each("list")}, "starts": {"bool", []string{"text text"}}, "ends": {"bool", []string{"text text"}}, "join": {"text", []string{"list text"}},
}

// each are some kinds, and beside each one any.
func each(first ...string) []string {
	var l []string
	for _, a := range first {
		for _, b := range words {
			l = append(l, a+" "+b)
		}
	}
	return l
}

// signs are the rules' Ops, rising, so that the tests hang on no map's order.
var signs = func() []string {
	var l []string
	for sign := range rules {
		l = append(l, sign)
	}
	slices.Sort(l)
	return l
}()

// argsOf is how many Args an Op has.
func argsOf(sign string) int { return len(strings.Fields(rules[sign].ways[0])) }

// wordsOf are the words of some sorts: the greatest number that is left is taken again and again.
func wordsOf(s Sorts) []string {
	var l []string
	for at := len(words) - 1; at >= 0; at-- {
		if n := numbers[words[at]]; s >= n {
			s -= n
			l = append(l, words[at])
		}
	}
	slices.Reverse(l)
	return l
}

// numberOf is the sum of some words' numbers.
func numberOf(l []string) Sorts {
	var sum Sorts
	for _, word := range l {
		sum += numbers[word]
	}
	return sum
}

// told is what the words of the chapter tell of an expression: each way in which the kinds of its Args may come is tried.
func told(e expr.Expr, in Env) (Sorts, api.Errno) {
	ways := []string{""}
	first := api.OK
	for _, arg := range e.Args {
		s, errno := told(arg, in)
		if first == api.OK {
			first = errno
		}
		var more []string
		for _, way := range ways {
			for _, word := range wordsOf(s) {
				more = append(more, strings.TrimSpace(way+" "+word))
			}
		}
		ways = more
	}
	if first != api.OK {
		return 0, first
	}
	switch e.Op {
	case "lit":
		return numbers[words[e.Lit.Kind]], api.OK
	case "this":
		return in.This, api.OK
	case "var":
		for at, known := range in.Names {
			if known == e.Name {
				return in.Sorts[at], api.OK
			}
		}
		return 0, api.ErrName
	}
	for _, way := range ways {
		if slices.Contains(rules[e.Op].ways, way) {
			return numberOf(strings.Fields(rules[e.Op].made)), api.OK
		}
	}
	return 0, api.ErrKind
}

func checkTold(t *testing.T, e expr.Expr, in Env) {
	t.Helper()
	got, errno := Check(e, in)
	if want, wantE := told(e, in); got != want || errno != wantE {
		t.Errorf("Check(%s, %+v): %d, %d; want %d, %d", expr.Print(e), in, got, errno, want, wantE)
	}
}

func TestOf(t *testing.T) { // P9.1
	for kind, want := range []Sorts{1, 2, 4, 8, 16, 32} {
		for _, v := range byKind[kind] {
			if s := Of(v); s != want {
				t.Errorf("Of(%+v): %d; want %d", v, s, want)
			}
		}
	}
	if All != 63 {
		t.Errorf("All: %d", All)
	}
}

func TestHas(t *testing.T) { // P9.1
	kinds := []int{math.MinInt, math.MinInt + 1, -1 << 32, math.MaxInt, math.MaxInt - 1, 1 << 31, 1 << 32, 1<<32 + 1, 1 << 62}
	for kind := -70; kind <= 130; kind++ {
		kinds = append(kinds, kind)
	}
	for s := range All + 1 {
		for _, kind := range kinds {
			want := 0 <= kind && kind < 6 && slices.Contains(wordsOf(s), words[kind])
			if s.Has(kind) != want {
				t.Errorf("Sorts(%d).Has(%d): %v", s, kind, !want)
			}
		}
	}
	// By hand.
	for _, c := range []struct {
		s    Sorts
		kind int
		want bool
	}{
		{0, value.Null, false}, {1, value.Null, true}, {62, value.Null, false}, {2, value.Bool, true}, {4, value.Int, true}, {8, value.Str, true}, {16, value.Arr, true}, {32, value.Obj, true}, {31, value.Obj, false}, {32, value.Arr, false}, {24, value.Str, true}, {24, value.Int, false}, {All, value.Obj, true}, {All, 6, false}, {All, -1, false}, {All, 64, false}, {All, 63, false},
	} {
		if c.s.Has(c.kind) != c.want {
			t.Errorf("Sorts(%d).Has(%d): %v", c.s, c.kind, !c.want)
		}
	}
}

func TestText(t *testing.T) { // P9.1
	for s, want := range map[Sorts]string{
		0: "none", 1: "null", 2: "bool", 4: "int", 8: "text", 16: "list", 32: "object", 3: "null|bool", 5: "null|int", 12: "int|text", 33: "null|object", 36: "int|object", 48: "list|object", 56: "text|list|object", 62: "bool|int|text|list|object", All: "null|bool|int|text|list|object",
	} {
		if got := s.Text(); got != want {
			t.Errorf("Sorts(%d).Text(): %q; want %q", s, got, want)
		}
	}
	texts := map[string]Sorts{}
	for s := range All + 1 {
		got := s.Text()
		if want := strings.Join(wordsOf(s), "|"); s > 0 && got != want {
			t.Errorf("Sorts(%d).Text(): %q; want %q", s, got, want)
		}
		if other, twice := texts[got]; twice {
			t.Errorf("Sorts %d and %d are both %q", s, other, got)
		}
		texts[got] = s
	}
}

func TestExample(t *testing.T) { // P9.1
	e, _, _ := expr.Parse("this.a + 1")
	if s, errno := Check(e, Env{This: All}); s != 4 || errno != api.OK {
		t.Errorf("Check(this.a + 1): %d, %d", s, errno)
	}
}

func TestLeaves(t *testing.T) { // P9.1
	for kind, l := range byKind {
		for _, v := range l {
			for _, in := range []Env{{}, env(All, "x", All), env(1, "x y", 2, 4)} {
				if s, errno := Check(lit(v), in); s != 1<<kind || errno != api.OK {
					t.Errorf("Check(%+v): %d, %d", v, s, errno)
				}
			}
		}
	}
	for s := range All + 1 {
		in := env(s, "a x B", 63-s, s, 63-s)
		if got, errno := Check(this(), in); got != s || errno != api.OK {
			t.Errorf("Check(this), which has %d: %d, %d", s, got, errno)
		}
		if got, errno := Check(name("x"), in); got != s || errno != api.OK {
			t.Errorf("Check(x), which has %d: %d, %d", s, got, errno)
		}
		if got, errno := Check(name("B"), in); got != 63-s || errno != api.OK {
			t.Errorf("Check(B), which has %d: %d, %d", 63-s, got, errno)
		}
	}
}

func TestNames(t *testing.T) { // P9.1
	in := env(0, "x X x1 x_ xx this_ y", 1, 2, 4, 8, 16, 32, 0)
	for at, s := range in.Names {
		if got, errno := Check(name(s), in); got != in.Sorts[at] || errno != api.OK {
			t.Errorf("Check(%s): %d, %d", s, got, errno)
		}
	}
	for _, s := range []string{"a", "Y", "x2", "x11", "x__", "xxx", "th", "z", "X1"} {
		if got, errno := Check(name(s), in); got != 0 || errno != api.ErrName {
			t.Errorf("Check(%s): %d, %d", s, got, errno)
		}
		if got, errno := Check(op("not", name(s)), in); got != 0 || errno != api.ErrName {
			t.Errorf("Check(not %s): %d, %d", s, got, errno)
		}
		if got, errno := Check(name(s), Env{This: All}); got != 0 || errno != api.ErrName {
			t.Errorf("Check(%s), without names: %d, %d", s, got, errno)
		}
		// A key is no name.
		if got, errno := Check(get(this(), s), env(32, "")); got != All || errno != api.OK {
			t.Errorf("Check(this.%s): %d, %d", s, got, errno)
		}
	}
	// As many names as one likes, in any order.
	many := Env{}
	for at := range 5000 {
		many.Names = append(many.Names, "x"+strings.Repeat("y", at%71)+strings.Repeat("z", at/71))
		many.Sorts = append(many.Sorts, Sorts(at%64))
	}
	for _, at := range []int{0, 1, 63, 64, 70, 71, 72, 2500, 4998, 4999} {
		if s, errno := Check(name(many.Names[at]), many); s != Sorts(at%64) || errno != api.OK {
			t.Errorf("Check of name %d of many: %d, %d", at, s, errno)
		}
	}
}

func TestByHand(t *testing.T) { // P9.1
	in := env(All, "n b i t l o zero bi it tl il", 1, 2, 4, 8, 16, 32, 0, 6, 12, 24, 20)
	for s, want := range map[string]Sorts{
		"null": 1, "true": 2, "false": 2, "1": 4, `"a"`: 8, "this": All, "zero": 0, "(bi)": 6,
		"o.a": All, `o."or"`: All, "this.a.b.c": All, "l[i]": All, "l[0]": All, "this[this]": All, "l[0][1].a[i]": All, "il[bi]": All,
		"b or b": 2, "b and true": 2, "not b": 2, "not not bi": 2, "bi or this": 2, "not this.a": 2, "b or b and not b": 2,
		"n == n": 2, "i == t": 2, "o != l": 2, "n != this": 2, "null == null": 2,
		"i < i": 2, "t < t": 2, "i <= 1": 2, `"a" > t`: 2, "bi >= i": 2, "it < it": 2, "it < tl": 2, "il < bi": 2, "this < this": 2, "this > 1": 2, "i < this.a": 2,
		"i + i": 4, "i - 1": 4, "2 * i": 4, "i / i": 4, "i % this": 4, "bi + il": 4, "-i": 4, "--it": 4, "-this": 4, "1 + 2 * i - -l[0]": 4,
		"len(t)": 4, "len(l)": 4, "len(o)": 4, "len(tl)": 4, "len(it)": 4, "len(il)": 4, "len(this)": 4, `len("")`: 4, "sum(l)": 4, "min(il)": 4, "max(this)": 4, "all(l)": 2, "any(tl)": 2, "keys(o)": 16, "keys(this)": 16,
		"has(o, t)": 2, `has(this, "a")`: 2, "has(o, tl)": 2, "count(l, n)": 4, "count(tl, o)": 4, "count(this, this)": 4, "count(l, l)": 4, "count(l, b)": 4, "starts(t, t)": 2, "ends(tl, it)": 2, `starts("a", this)`: 2, "join(l, t)": 8, "join(tl, it)": 8, `join(this, "")`: 8, "join(keys(o), join(l, t))": 8,
		"len(keys(o)) + sum(l) < count(l, 1)": 2, "all(l) == any(l)": 2, `starts(join(l, ","), t) or has(o, "a")`: 2, "keys(o)[0].a": All,
	} {
		e, place, errno := expr.Parse(s)
		if errno != api.OK {
			t.Fatalf("%s: %d, %d", s, place, errno)
		}
		if got, errno := Check(e, in); got != want || errno != api.OK {
			t.Errorf("Check(%s): %d, %d; want %d", s, got, errno, want)
		}
	}
	for s, want := range map[string]api.Errno{
		// Of other kinds than they must.
		"l.a": api.ErrKind, "t.a": api.ErrKind, "tl.a": api.ErrKind, "zero.a": api.ErrKind, "null.a": api.ErrKind, "o[i]": api.ErrKind, "l[t]": api.ErrKind, "t[0]": api.ErrKind, "l[l]": api.ErrKind, "l[null]": api.ErrKind, "l[zero]": api.ErrKind, "zero[0]": api.ErrKind, `o["a"]`: api.ErrKind, "i[l]": api.ErrKind,
		"b or i": api.ErrKind, "i or b": api.ErrKind, "n and b": api.ErrKind, "b and zero": api.ErrKind, "not i": api.ErrKind, "not n": api.ErrKind, "not zero": api.ErrKind, "not len(t)": api.ErrKind,
		"zero == zero": api.ErrKind, "zero == n": api.ErrKind, "n == zero": api.ErrKind, "zero != this": api.ErrKind, "this != zero": api.ErrKind,
		"i < t": api.ErrKind, "t > i": api.ErrKind, "b < b": api.ErrKind, "n <= n": api.ErrKind, "l >= l": api.ErrKind, "o < o": api.ErrKind, "bi < tl": api.ErrKind, "tl < il": api.ErrKind, "zero < i": api.ErrKind, "i < zero": api.ErrKind, "this < b": api.ErrKind, "l < this": api.ErrKind, "zero < zero": api.ErrKind,
		"i + t": api.ErrKind, "t + t": api.ErrKind, "b - i": api.ErrKind, "i * l": api.ErrKind, "n / i": api.ErrKind, "i % zero": api.ErrKind, "-t": api.ErrKind, "-zero": api.ErrKind, "-b": api.ErrKind, "1 + null": api.ErrKind,
		"len(i)": api.ErrKind, "len(b)": api.ErrKind, "len(n)": api.ErrKind, "len(bi)": api.ErrKind, "len(zero)": api.ErrKind, "sum(o)": api.ErrKind, "sum(t)": api.ErrKind, "min(i)": api.ErrKind, "max(o)": api.ErrKind, "all(o)": api.ErrKind, "any(b)": api.ErrKind, "all(zero)": api.ErrKind, "keys(l)": api.ErrKind, "keys(t)": api.ErrKind, "keys(zero)": api.ErrKind,
		"has(l, t)": api.ErrKind, "has(o, i)": api.ErrKind, "has(t, o)": api.ErrKind, "has(zero, t)": api.ErrKind, "count(o, n)": api.ErrKind, "count(t, t)": api.ErrKind, "count(l, zero)": api.ErrKind, "count(n, l)": api.ErrKind, "starts(t, i)": api.ErrKind, "starts(l, t)": api.ErrKind, "ends(l, l)": api.ErrKind, "ends(t, n)": api.ErrKind, "join(t, l)": api.ErrKind, "join(l, l)": api.ErrKind, "join(t, t)": api.ErrKind, "join(l, zero)": api.ErrKind, "join(o, t)": api.ErrKind,
		// What an expression is made of may not be what it must, though a name might.
		"(i < i) + 1": api.ErrKind, "not (i + i)": api.ErrKind, "len(len(t))": api.ErrKind, "sum(keys(o)).a": api.ErrKind, "keys(o).a": api.ErrKind, "keys(l[0])[t]": api.ErrKind, "join(l, t) + 1": api.ErrKind, "all(l) < 1": api.ErrKind, "has(o, t) < has(o, t)": api.ErrKind, "-(i == i)": api.ErrKind, "(b or b)[0]": api.ErrKind, "count(l, 1).a": api.ErrKind, "o.a == zero + 1": api.ErrKind,
		// Names that are none.
		"q": api.ErrName, "q.a": api.ErrName, "q or b": api.ErrName, "b or q": api.ErrName, "l[q]": api.ErrName, "len(q)": api.ErrName, "not q": api.ErrName, "q == q": api.ErrName, "has(o, q)": api.ErrName,
		// The first error of the Args, in order, ahead of the expression's own.
		"1 or q": api.ErrName, "q or 1": api.ErrName, "l + q": api.ErrName, "i[q]": api.ErrName, "q[t]": api.ErrName, "zero == q": api.ErrName, "has(i, q)": api.ErrName, "not (1 + q)": api.ErrName,
		"q + (1 + t)": api.ErrName, "(1 + t) + q": api.ErrKind, "l[-t] == q": api.ErrKind, "q == l[-t]": api.ErrName, "len(t.a) < q": api.ErrKind, "q < len(t.a)": api.ErrName, "has(not 1, q)": api.ErrKind, "has(q, not 1)": api.ErrName, "count(l[q], -n)": api.ErrName, "count(l[n], -q)": api.ErrKind, "join(q.a, n.a)": api.ErrName, "join(n.a, q.a)": api.ErrKind, "(b + 1)[q]": api.ErrKind, "q[b + 1]": api.ErrName,
	} {
		e, place, errno := expr.Parse(s)
		if errno != api.OK {
			t.Fatalf("%s: %d, %d", s, place, errno)
		}
		if got, errno := Check(e, in); got != 0 || errno != want {
			t.Errorf("Check(%s): %d, %d; want %d", s, got, errno, want)
		}
	}
}

// TestEachOp holds each Op, of Args of any sorts, against the words.
func TestEachOp(t *testing.T) { // P9.1
	if len(signs) != 29 {
		t.Fatalf("%d Ops", len(signs))
	}
	for _, sign := range signs {
		for x := range All + 1 {
			if argsOf(sign) == 1 {
				checkTold(t, op(sign, this()), env(x, ""))
				checkTold(t, op(sign, name("x")), env(63-x, "x", x))
				continue
			}
			for y := range All + 1 {
				checkTold(t, op(sign, name("x"), name("y")), env(0, "x y", x, y))
			}
			checkTold(t, op(sign, this(), name("x")), env(x, "x", 63-x))
			checkTold(t, op(sign, this(), this()), env(x, "x", 63-x))
		}
		for _, a := range byKind {
			for _, b := range byKind {
				args := []expr.Expr{lit(a[0]), lit(b[len(b)-1])}
				checkTold(t, op(sign, args[:argsOf(sign)]...), Env{})
			}
		}
	}
}

// leaves are of each kind, of what an environment has, and of a name that none has.
func leaves() []expr.Expr {
	return []expr.Expr{lit(value.Value{}), lit(value.Value{Kind: value.Bool}), lit(value.Value{Kind: value.Int}), lit(value.Value{Kind: value.Str}), this(), name("x"), name("q")}
}

// over are all Ops over some Args.
func over(first, second []expr.Expr) []expr.Expr {
	var l []expr.Expr
	for _, sign := range signs {
		for _, a := range first {
			if argsOf(sign) == 1 {
				l = append(l, op(sign, a))
				continue
			}
			for _, b := range second {
				l = append(l, op(sign, a, b))
			}
		}
	}
	return l
}

func TestSmallTrees(t *testing.T) { // P9.1
	flat := leaves()
	two := over(flat, flat)
	envs := []Env{env(All, "x", All), env(16, "x", 32), env(0, "x", 12), env(40, "x", 22)}
	for _, in := range envs {
		for _, e := range slices.Concat(flat, two, over(two, flat[1:6:6])) {
			checkTold(t, e, in)
		}
	}
	for _, e := range over(flat, two) {
		checkTold(t, e, envs[0])
	}
}

// drawn is a tree that numbers lead to, of at most so many levels, and most often one that may be had.
func drawn(random *rand.Rand, deep int) expr.Expr {
	if deep == 1 || random.Intn(5) == 0 {
		l := append(leaves(), this(), this(), this(), name("x"), name("x"), name("y"), name("y"), name("z"), lit(value.Value{Kind: value.Arr}), lit(value.Value{Kind: value.Obj}))
		return l[random.Intn(len(l))]
	}
	sign := signs[random.Intn(len(signs))]
	args := []expr.Expr{drawn(random, deep-1), drawn(random, deep-1)}
	e := op(sign, args[:argsOf(sign)]...)
	if sign == "get" {
		e.Name = []string{"a", "x", "q", ""}[random.Intn(4)]
	}
	return e
}

// some is an environment that numbers lead to.
func some(random *rand.Rand) Env {
	in := env(Sorts(random.Intn(64)), "z x y", Sorts(random.Intn(64)), Sorts(random.Intn(64)), Sorts(random.Intn(64)))
	if random.Intn(2) == 0 {
		in.This, in.Sorts[1] = All, All
	}
	return in
}

func TestDrawnTrees(t *testing.T) { // P9.1
	random := rand.New(rand.NewSource(9))
	many := map[api.Errno]int{}
	for range 100000 {
		e, in := drawn(random, 1+random.Intn(5)), some(random)
		checkTold(t, e, in)
		_, errno := Check(e, in)
		many[errno]++
		// In which order the names stand, and what others there are, doesn't matter.
		other := Env{This: in.This}
		for _, at := range random.Perm(3) {
			other.Names = append(other.Names, in.Names[at])
			other.Sorts = append(other.Sorts, in.Sorts[at])
		}
		other.Names, other.Sorts = append(other.Names, "a"), append(other.Sorts, 1)
		checkTold(t, e, other)
		got, errno := Check(e, in)
		if again, errno2 := Check(e, other); got != again || errno != errno2 {
			t.Errorf("Check(%s): %d, %d; with names in another order %d, %d", expr.Print(e), got, errno, again, errno2)
		}
	}
	for _, errno := range []api.Errno{api.OK, api.ErrName, api.ErrKind} {
		if many[errno] < 5000 {
			t.Errorf("error %d came %d times", errno, many[errno])
		}
	}
	if len(many) != 3 {
		t.Errorf("errors %v", many)
	}
}

// checkMore holds what is told with some sorts against what is told with more.
func checkMore(t *testing.T, e expr.Expr, less, more Env) {
	t.Helper()
	before, errno := Check(e, less)
	after, errno2 := Check(e, more)
	if errno == api.OK && (errno2 != api.OK || before|after != after) {
		t.Errorf("Check(%s): %d where %+v, but %d, %d where %+v", expr.Print(e), before, less, after, errno2, more)
	}
	// A name that is missing stays the first error, since all ahead of it still may be.
	if errno == api.ErrName && errno2 != api.ErrName {
		t.Errorf("Check(%s): %d where %+v, but %d where %+v", expr.Print(e), errno, less, errno2, more)
	}
}

func TestMoreSorts(t *testing.T) { // P9.2
	flat := leaves()
	small := slices.Concat(flat, over(flat, flat))
	for s := range All + 1 {
		for bit := range 6 {
			wide := s | 1<<bit
			for _, other := range []Sorts{0, 4, 8, 16, 32, All} {
				for _, e := range small {
					checkMore(t, e, env(s, "x", other), env(wide, "x", other))
					checkMore(t, e, env(other, "x", s), env(other, "x", wide))
				}
			}
		}
	}
	random := rand.New(rand.NewSource(99))
	for range 100000 {
		e, less := drawn(random, 1+random.Intn(5)), some(random)
		more := env(less.This|Sorts(random.Intn(64)), "z x y", less.Sorts...)
		more.Sorts = slices.Clone(less.Sorts)
		for at := range more.Sorts {
			more.Sorts[at] |= Sorts(random.Intn(64))
		}
		checkMore(t, e, less, more)
		checkMore(t, e, more, env(All, "z x y", All, All, All))
		// One name more, which has sorts.
		more.Names, more.Sorts = append(more.Names, "q"), append(more.Sorts, All)
		before, errno := Check(e, less)
		after, errno2 := Check(e, more)
		if errno == api.OK && (errno2 != api.OK || before|after != after) || errno2 == api.ErrName {
			t.Errorf("Check(%s): %d, %d; with a name more %d, %d", expr.Print(e), before, errno, after, errno2)
		}
	}
}

func TestHandedInStays(t *testing.T) { // P8: R6 and R8
	random := rand.New(rand.NewSource(999))
	for range 2000 {
		seed := random.Int63()
		e, in := drawn(rand.New(rand.NewSource(seed)), 4), some(random)
		kept := drawn(rand.New(rand.NewSource(seed)), 4)
		in.Names = append(make([]string, 0, 5), in.Names...)
		in.Sorts = append(make([]Sorts, 0, 5), in.Sorts...)
		names, sorts, this := slices.Clone(in.Names[:5]), slices.Clone(in.Sorts[:5]), in.This
		e.Args = append(make([]expr.Expr, 0, 4), e.Args...)
		many := len(e.Args)
		got, errno := Check(e, in)
		again, errno2 := Check(e, in)
		if got != again || errno != errno2 {
			t.Errorf("Check(%s): %d, %d; and again %d, %d", expr.Print(e), got, errno, again, errno2)
		}
		if !slices.Equal(in.Names[:5], names) || !slices.Equal(in.Sorts[:5], sorts) || in.This != this {
			t.Fatalf("Check(%s): the environment is changed", expr.Print(e))
		}
		if !expr.Same(e, kept) || !reflect.DeepEqual(e.Args[:4][many:], make([]expr.Expr, 4-many)) {
			t.Fatalf("Check(%s): the tree is changed", expr.Print(kept))
		}
	}
	// Nothing is kept of an environment that was there before, nor of an error.
	for range 3 {
		for s := range All + 1 {
			if got, errno := Check(name("x"), env(0, "x", s)); got != s || errno != api.OK {
				t.Errorf("Check(x), which has %d: %d, %d", s, got, errno)
			}
			if got, errno := Check(name("x"), env(s, "y", s)); got != 0 || errno != api.ErrName {
				t.Errorf("Check(x), which isn't there: %d, %d", got, errno)
			}
		}
	}
	// Lists may be nil or empty.
	for _, in := range []Env{{This: 4}, {This: 4, Names: []string{}, Sorts: []Sorts{}}, {This: 4, Names: []string{}}} {
		e := op("neg", expr.Expr{Op: "this", Args: []expr.Expr{}})
		if got, errno := Check(e, in); got != 4 || errno != api.OK {
			t.Errorf("Check(-this) of empty lists: %d, %d", got, errno)
		}
	}
}

// nest is an Op in itself, at one place of its Args, so many times, and a leaf within.
func nest(sign string, place, many int, leaf expr.Expr) expr.Expr {
	e := leaf
	for range many {
		args := []expr.Expr{this(), this()}
		args[place] = e
		e = op(sign, args[:argsOf(sign)]...)
	}
	return e
}

func TestDeep(t *testing.T) { // P7
	for _, c := range []struct {
		leaf expr.Expr
		many int
	}{{this(), 1 << 16}, {name("q"), 1 << 12}, {op("neg", lit(value.Value{})), 1 << 12}} {
		for _, sign := range signs {
			for place := range argsOf(sign) {
				got, errno := Check(nest(sign, place, c.many, c.leaf), env(All, ""))
				// What is made of what an Op makes is the same at each level.
				want, wantE := told(nest(sign, place, 2, c.leaf), env(All, ""))
				if got != want || errno != wantE {
					t.Errorf("Check of %s, %d times at %d: %d, %d; want %d, %d", sign, c.many, place, got, errno, want, wantE)
				}
			}
		}
	}
	// As wide as a tree of so many levels may be.
	e := name("x")
	for range 16 {
		e = op("+", e, e)
	}
	if s, errno := Check(e, env(0, "x", 5)); s != 4 || errno != api.OK {
		t.Errorf("Check of a wide tree: %d, %d", s, errno)
	}
}

func TestWrong(t *testing.T) { // P7 and P8: R3
	// Numbers that are no sorts, and values that are none, have no kind beside the six.
	for _, s := range []Sorts{64, 128, 1 << 32, 1 << 62, math.MinInt64} {
		for kind := -1; kind < 70; kind++ {
			if s.Has(kind) {
				t.Errorf("Sorts(%d).Has(%d): true", s, kind)
			}
		}
		if s.Text() != "none" || (s|4).Text() != "int" {
			t.Errorf("Sorts(%d).Text(): %q", s, s.Text())
		}
	}
	for _, kind := range []int{-1, 6, 7, 63, 64, 65, math.MinInt, math.MaxInt} {
		if s := Of(value.Value{Kind: kind}); s != 0 {
			t.Errorf("Of a value of kind %d: %d", kind, s)
		}
		if s, _ := Check(lit(value.Value{Kind: kind}), Env{}); s != 0 {
			t.Errorf("Check of a value of kind %d: %d", kind, s)
		}
	}
	// Trees that are none, and environments that are none: an error, or none, but no panic.
	trees := []expr.Expr{{}, {Op: "?"}, {Op: "Len", Args: []expr.Expr{this()}}, {Op: "lit", Args: []expr.Expr{{}}}, {Op: "this", Args: []expr.Expr{name("q")}}, {Op: "var"}, {Op: "var", Name: "\xff"}, op("lits", this()), op("! =", this(), this())}
	for _, sign := range signs {
		for many := range 5 {
			if many != argsOf(sign) {
				trees = append(trees, op(sign, slices.Repeat([]expr.Expr{this()}, many)...))
			}
		}
	}
	envs := []Env{{}, {This: All}, {This: -1}, {This: 64}, {This: All, Names: []string{"", "q", "\xff"}}, {Names: []string{"q", "q"}, Sorts: []Sorts{1}}, {Sorts: []Sorts{1, 2}}, {Names: []string{"q"}, Sorts: []Sorts{-5, 1 << 40}}}
	for _, e := range append(trees, name("q"), op("+", name("q"), this())) {
		for _, in := range envs {
			if s, errno := Check(e, in); errno != api.OK && s != 0 {
				t.Errorf("Check(%+v, %+v): %d beside error %d", e, in, s, errno)
			}
		}
	}
}

func FuzzTexts(f *testing.F) {
	for _, s := range []string{"this.a + 1", "x == y", "not x or y < len(this)", "count(keys(this), x[0])", `join(this, "") + q`, "-x % 3 * sum(this)", "null"} {
		f.Add(s, 63, 63, 63)
		f.Add(s, 0, 4, 24)
	}
	f.Fuzz(func(t *testing.T, s string, this, x, y int) {
		e, _, errno := expr.Parse(s)
		if errno != api.OK {
			return
		}
		in := env(Sorts(this)&All, "x y", Sorts(x)&All, Sorts(y)&All)
		checkTold(t, e, in)
		checkMore(t, e, in, env(in.This|Sorts(y)&All, "x y", All, in.Sorts[1]|in.This))
	})
}
