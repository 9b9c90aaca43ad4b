package term

import (
	"fmt"
	"math"
	"math/rand"
	"reflect"
	"regexp"
	"slices"
	"strconv"
	"strings"
	"testing"

	"cheval/api"
	"cheval/expr"
	"cheval/iso"
	"cheval/value"
)

// The samples are written field by field, so that they don't hang on the calls of another package.

func number(n int64) value.Value      { return value.Value{Kind: value.Int, Int: n} }
func str(s string) value.Value        { return value.Value{Kind: value.Str, Str: s} }
func truth(b bool) value.Value        { return value.Value{Kind: value.Bool, Bool: b} }
func list(l ...expr.Expr) []expr.Expr { return l }

func lit(v value.Value) expr.Expr               { return expr.Expr{Op: "lit", Lit: v} }
func num(n int64) expr.Expr                     { return lit(number(n)) }
func name(s string) expr.Expr                   { return expr.Expr{Op: "var", Name: s} }
func this() expr.Expr                           { return expr.Expr{Op: "this"} }
func op(op string, args ...expr.Expr) expr.Expr { return expr.Expr{Op: op, Args: args} }
func get(x expr.Expr, key string) expr.Expr {
	return expr.Expr{Op: "get", Name: key, Args: list(x)}
}

func isos(names string) []iso.Iso {
	var l []iso.Iso
	for _, s := range strings.Fields(names) {
		l = append(l, iso.Iso{Name: s})
	}
	return l
}

func just(v value.Value) Term       { return Term{Kind: 0, Lit: v} }
func ints(low, high expr.Expr) Term { return Term{Kind: 1, Exprs: list(low, high)} }
func tuple(parts ...Term) Term      { return Term{Kind: 3, Parts: parts} }
func many(t Term, low, high expr.Expr) Term {
	return Term{Kind: 5, Parts: []Term{t}, Exprs: list(low, high)}
}
func chars(s string, low, high expr.Expr) Term {
	return Term{Kind: 6, Lit: str(s), Exprs: list(low, high)}
}
func ref(s string) Term { return Term{Kind: 7, Name: s} }
func let(s string, t Term, x expr.Expr, u Term) Term {
	return Term{Kind: 8, Name: s, Parts: []Term{t, u}, Exprs: list(x)}
}
func where(t Term, x expr.Expr) Term  { return Term{Kind: 9, Parts: []Term{t}, Exprs: list(x)} }
func mapped(l []iso.Iso, t Term) Term { return Term{Kind: 10, Isos: l, Parts: []Term{t}} }
func pick(parts ...Term) Term {
	t := Term{Kind: 2, Parts: parts}
	for range parts {
		t.Weights = append(t.Weights, 1)
	}
	return t
}

// weighed is a Pick of parts by weights.
func weighed(weights []int, parts ...Term) Term {
	return Term{Kind: 2, Weights: weights, Parts: parts}
}

// record has the keys, and a part for each.
func record(keys string, parts ...Term) Term {
	return Term{Kind: 4, Keys: strings.Fields(keys), Parts: parts}
}

// keywords are those of the chapter.
var keywords = strings.Fields("just int pick list text let from in where map")

// plain is all that a term is, told by Go's own %q: of a list it doesn't matter whether it is nil or empty.
func plain(t Term) string {
	var b strings.Builder
	fmt.Fprintf(&b, "{%d %q %s", t.Kind, t.Name, plainValue(t.Lit))
	fmt.Fprintf(&b, " keys%q weights%d parts[", t.Keys, t.Weights)
	for _, part := range t.Parts {
		b.WriteString(plain(part))
	}
	b.WriteString("] exprs[")
	for _, x := range t.Exprs {
		b.WriteString(plainExpr(x))
	}
	b.WriteString("] isos[")
	for _, x := range t.Isos {
		fmt.Fprintf(&b, "(%q %d %q)", x.Name, x.N, x.Key)
	}
	b.WriteString("]}")
	return b.String()
}

func plainExpr(x expr.Expr) string {
	s := fmt.Sprintf("(%q %q %s", x.Op, x.Name, plainValue(x.Lit))
	for _, arg := range x.Args {
		s += plainExpr(arg)
	}
	return s + ")"
}

func plainValue(v value.Value) string {
	s := fmt.Sprintf("<%d %v %d %q %q", v.Kind, v.Bool, v.Int, v.Str, v.Keys)
	for _, item := range v.Items {
		s += plainValue(item)
	}
	return s + ">"
}

// alike: are all fields the same?
func alike(a, b Term) bool { return plain(a) == plain(b) }

// alikeDefs: are all definitions the same?
func alikeDefs(a, b []Def) bool {
	return slices.EqualFunc(a, b, func(a, b Def) bool { return a.Name == b.Name && alike(a.Term, b.Term) })
}

// depthOf is a term's depth, counted level by level.
func depthOf(t Term) int {
	deep := 0
	for level := []Term{t}; len(level) > 0; deep++ {
		var below []Term
		for _, one := range level {
			below = append(below, one.Parts...)
		}
		level = below
	}
	return deep
}

// toldText is a term's text, by the words.
func toldText(t Term) string {
	var parts, exprs []string
	for _, part := range t.Parts {
		parts = append(parts, toldText(part))
	}
	for _, x := range t.Exprs {
		exprs = append(exprs, expr.Print(x))
	}
	switch t.Kind {
	case 0:
		return "just " + toldLit(t.Lit)
	case 1:
		return fmt.Sprintf("int(%s, %s)", exprs[0], exprs[1])
	case 2:
		for at := range parts {
			parts[at] = fmt.Sprintf("%d: %s", t.Weights[at], parts[at])
		}
		return fmt.Sprintf("pick(%s)", strings.Join(parts, ", "))
	case 3:
		return fmt.Sprintf("[%s]", strings.Join(parts, ", "))
	case 4:
		for at := range parts {
			parts[at] = fmt.Sprintf("%s: %s", quoted(t.Keys[at]), parts[at])
		}
		return fmt.Sprintf("{%s}", strings.Join(parts, ", "))
	case 5:
		return fmt.Sprintf("list(%s, %s, %s)", parts[0], exprs[0], exprs[1])
	case 6:
		return fmt.Sprintf("text(%s, %s, %s)", quoted(t.Lit.Str), exprs[0], exprs[1])
	case 7:
		return t.Name
	case 8:
		return fmt.Sprintf("let %s = %s from %s in %s", t.Name, parts[0], exprs[0], parts[1])
	case 9:
		return fmt.Sprintf("where(%s, %s)", parts[0], exprs[0])
	}
	return fmt.Sprintf("map(%s, %s)", iso.Print(t.Isos), parts[0])
}

func toldLit(v value.Value) string {
	switch v.Kind {
	case value.Bool:
		return strconv.FormatBool(v.Bool)
	case value.Int:
		return strconv.FormatInt(v.Int, 10)
	case value.Str:
		return quoted(v.Str)
	}
	return "null"
}

func quoted(s string) string {
	b := `"`
	for _, r := range s {
		switch at := strings.IndexRune("\"\\\b\f\n\r\t", r); {
		case at >= 0:
			b += `\` + string(`"\bfnrt`[at])
		case r < ' ':
			b += fmt.Sprintf(`\u%04x`, r)
		default:
			b += string(r)
		}
	}
	return b + `"`
}

// toldPrint is definitions' text, by the words.
func toldPrint(l []Def) string {
	s := ""
	for _, d := range l {
		s += d.Name + " = " + toldText(d.Term) + ";\n"
	}
	return s
}

// checkTerm: do all calls agree with the words on a term?
func checkTerm(t *testing.T, x Term) {
	t.Helper()
	if s, want := x.Text(), toldText(x); s != want {
		t.Errorf("P13.1: Text of %+v: %q; want %q", x, s, want)
	}
	if x.Depth() != depthOf(x) {
		t.Errorf("P13.1: Depth of %q: %d; want %d", x.Text(), x.Depth(), depthOf(x))
	}
	if !Same(x, x) || !Same(x, copyOf(x)) || !Same(copyOf(x), x) {
		t.Errorf("P13.1: Same of %q and itself: false", x.Text())
	}
	checkDefs(t, []Def{{Name: "a", Term: x}})
}

// checkDefs: is definitions' text what the words tell, and parsed as them?
func checkDefs(t *testing.T, l []Def) {
	t.Helper()
	s := Print(l)
	if want := toldPrint(l); s != want {
		t.Errorf("P13.1: Print of %+v: %q; want %q", l, s, want)
	}
	want, wantE := l, api.OK
	switch {
	case len(l) == 0:
		want, wantE = nil, api.ErrForm
	case len(s) > 8192:
		want, wantE = nil, api.ErrLong
	case slices.ContainsFunc(l, func(d Def) bool { return depthOf(d.Term) > 32 }):
		want, wantE = nil, api.ErrDeep
	}
	got, place, e := Parse(s)
	if !alikeDefs(got, want) || place != 0 || e != wantE {
		t.Errorf("P13.2: Parse(%.300q): %+v, %d, %d; want %+v, %d", s, got, place, e, want, wantE)
	}
	if e == api.OK && Print(got) != s {
		t.Errorf("P13.2: %q is parsed and printed as %q", s, Print(got))
	}
}

func TestTexts(t *testing.T) { // P13.1 and P13.2
	one, two, a, b := num(1), num(2), ref("a"), ref("b")
	for want, x := range map[string]Term{
		"just null": just(value.Value{}), "just true": just(truth(true)), "just false": just(truth(false)), "just 0": just(number(0)), "just -7": just(number(-7)), "just 9223372036854775807": just(number(math.MaxInt64)), "just -9223372036854775808": just(number(math.MinInt64)), `just ""`: just(str("")), `just "a\"\\\n\u0000` + "\x7f\u20ac\U0001F600\"": just(str("a\"\\\n\x00\x7f\u20ac\U0001F600")),
		"int(1, 2)": ints(one, two), "int((-1), (x + 2))": ints(op("neg", one), op("+", name("x"), two)), `int(len(x), this."k"[1])`: ints(op("len", name("x")), op("at", get(this(), "k"), one)),
		"pick(1: a)": pick(a), "pick(1: a, 1: b)": pick(a, b), "pick(2: just 1, 1: [a])": weighed([]int{2, 1}, just(number(1)), tuple(a)), "pick(0: a, 9223372036854775807: b)": weighed([]int{0, math.MaxInt64}, a, b), "pick(1: pick(3: a))": pick(weighed([]int{3}, a)),
		"[]": tuple(), "[a]": tuple(a), "[a, b, a]": tuple(a, b, a), "[[], [[]]]": tuple(tuple(), tuple(tuple())),
		"{}": record(""), `{"k": a}`: record("k", a), `{"l": a, "k": b}`: record("l k", a, b), `{"k": a, "k": {}}`: record("k k", a, record("")), `{"": a, "a\t": b}`: {Kind: Record, Keys: []string{"", "a\t"}, Parts: []Term{a, b}},
		"list(a, 1, 2)": many(a, one, two), "list([a, b], n, (n * 2))": many(tuple(a, b), name("n"), op("*", name("n"), two)),
		`text("abc", 1, 2)`: chars("abc", one, two), `text("", x, (not y))`: chars("", name("x"), op("not", name("y"))), `text("\n", 1, 1)`: chars("\n", one, one),
		"a": a, "true": ref("true"), "or": ref("or"), "len": ref("len"), "x_1": ref("x_1"),
		"let x = a from this in b": let("x", a, this(), b), `let x = a from this."in" in let y = b from x in a`: let("x", a, get(this(), "in"), let("y", b, name("x"), a)), "let x = let y = a from 1 in b from 2 in a": let("x", let("y", a, one, b), two, a), "let X_9 = [] from (1 == 2) in {}": let("X_9", tuple(), op("==", one, two), record("")),
		"where(a, true)": where(a, lit(truth(true))), "where(a, (this == null))": where(a, op("==", this(), lit(value.Value{}))),
		"map(neg, a)": mapped(isos("neg"), a), `map(plus -2 | tag "k" | rev, [a])`: mapped([]iso.Iso{{Name: "plus", N: -2}, {Name: "tag", Key: "k"}, {Name: "rev"}}, tuple(a)),
	} {
		if s := x.Text(); s != want {
			t.Errorf("Text of %+v: %q; want %q", x, s, want)
		}
		checkTerm(t, x)
	}
	for want, l := range map[string][]Def{
		"": nil, "a = pick(2: just 1, 1: [a]);\n": {{"a", weighed([]int{2, 1}, just(number(1)), tuple(a))}}, "a = b;\nb = a;\n": {{"a", b}, {"b", a}}, "a = a;\na = a;\na = b;\n": {{"a", a}, {"a", a}, {"a", b}}, "or = just 0;\nlen_ = [or];\n": {{"or", just(number(0))}, {"len_", tuple(ref("or"))}},
	} {
		if s := Print(l); s != want {
			t.Errorf("Print of %+v: %q; want %q", l, s, want)
		}
		checkDefs(t, l)
	}
}

// nest is a term that is so deep, all of a kind.
func nest(deep, kind int, t Term) Term {
	for range deep - 1 {
		switch kind {
		case Pick:
			t = pick(t)
		case Tuple:
			t = tuple(t)
		case Record:
			t = record("k", t)
		case List:
			t = many(t, num(0), num(1))
		case Bind:
			t = let("x", ref("a"), this(), t)
		case -Bind:
			t = let("x", t, this(), ref("a"))
		case Where:
			t = where(t, this())
		case Map:
			t = mapped(isos("neg"), t)
		}
	}
	return t
}

var nested = []int{Pick, Tuple, Record, List, Bind, -Bind, Where, Map}

func TestDepths(t *testing.T) { // P13.1
	for _, kind := range nested {
		for _, deep := range []int{1, 2, 3, 31, 32, 33, 34, 64} {
			x := nest(deep, kind, ref("b"))
			if x.Depth() != deep {
				t.Errorf("Depth: %d; want %d", x.Depth(), deep)
			}
			checkTerm(t, x)
			// The deepest one decides, wherever it stands.
			checkTerm(t, tuple(ref("b"), x, just(number(1))))
			checkDefs(t, []Def{{"a", ref("b")}, {"b", x}, {"c", tuple()}})
			s := "a = b; b = " + toldText(x)
			checkText(t, s)
			checkText(t, s+"; c")
			checkText(t, s+"; c = int(01, 2);")
			checkText(t, "a = just 99999999999999999999;"+s+";")
		}
	}
	// How deep an expression is counts for nothing.
	x := op("neg", num(1))
	for range 30 {
		x = op("neg", x)
	}
	deep := tuple(where(ints(x, x), op("==", this(), get(this(), "k"))))
	if deep.Depth() != 3 {
		t.Errorf("Depth: %d; want 3", deep.Depth())
	}
	checkTerm(t, deep)
	checkTerm(t, nest(32, Tuple, ints(x, x)))
	// Nor does how deep a value would be.
	if d := just(str("[[[]]]")).Depth(); d != 1 {
		t.Errorf("Depth of a Just: %d", d)
	}
}

func TestSame(t *testing.T) { // P13.1
	random := rand.New(rand.NewSource(13))
	one, a, b := num(1), ref("a"), ref("b")
	l := []Term{
		{}, just(truth(false)), just(truth(true)), just(number(0)), just(number(1)), just(number(-1)), just(str("")), just(str("0")), just(str("a")),
		a, b, ref("A"), ref(""), tuple(), record(""), pick(), tuple(a), tuple(b), tuple(a, b), tuple(b, a), tuple(tuple(a)), pick(a), pick(b), pick(a, b), weighed([]int{2}, a), weighed([]int{2, 1}, a, b), weighed([]int{1, 2}, a, b), weighed([]int{1, 2}, a), weighed(nil, a),
		record("a", a), record("b", a), record("a", b), record("a b", a, b), record("b a", a, b), record("a", a, b), record("a b", a), ints(one, one), ints(one, num(2)), ints(num(2), one), ints(one, name("x")), ints(one, this()), many(a, one, one), many(b, one, one), many(a, one, num(2)), chars("a", one, one), chars("b", one, one), chars("a", num(2), one),
		let("x", a, this(), b), let("y", a, this(), b), let("x", b, this(), a), let("x", a, one, b), where(a, this()), where(b, this()), where(a, one), mapped(isos("neg"), a), mapped(isos("rev"), a), mapped(isos("neg"), b), mapped(isos("neg neg"), a), mapped([]iso.Iso{{Name: "plus", N: 1}}, a), mapped([]iso.Iso{{Name: "plus", N: 2}}, a), mapped([]iso.Iso{{Name: "tag", Key: "a"}}, a), mapped([]iso.Iso{{Name: "tag", Key: "b"}}, a), mapped(nil, a),
		{Kind: Tuple, Name: "a"}, {Kind: Tuple, Lit: number(1)}, {Kind: Tuple, Keys: []string{"a"}}, {Kind: Tuple, Weights: []int{0}}, {Kind: Tuple, Exprs: list(one)}, {Kind: Tuple, Isos: isos("neg")}, {Kind: 11}, {Kind: -1}, {Kind: Range},
	}
	for range 200 {
		l = append(l, drawn(random, 1+random.Intn(4)))
	}
	for _, x := range l {
		for _, y := range l {
			if Same(x, y) != alike(x, y) {
				t.Errorf("Same(%+v, %+v): %v", x, y, !alike(x, y))
			}
		}
	}
	// Of lists it doesn't matter whether they are nil or empty (R5).
	full := Term{Kind: Tuple, Keys: []string{}, Weights: []int{}, Parts: []Term{}, Exprs: []expr.Expr{}, Isos: []iso.Iso{}, Lit: value.Value{Items: []value.Value{}, Keys: []string{}}}
	if !Same(full, tuple()) || !Same(tuple(), full) || full.Text() != "[]" || full.Depth() != 1 {
		t.Error("an empty list isn't nil")
	}
}

func TestWords(t *testing.T) { // P13.1
	wordOf := regexp.MustCompile(`^[A-Za-z][A-Za-z0-9_]*$`)
	check := func(s string) {
		t.Helper()
		want := wordOf.MatchString(s) && !strings.Contains(s, "\n") && !slices.Contains(keywords, s)
		if IsWord(s) != want {
			t.Errorf("IsWord(%.100q): %v", s, !want)
		}
		// What may be a name is read as one, and nothing else is.
		l, _, e := Parse(s + "=b;")
		if len(s) < 8000 && want != (e == api.OK && len(l) == 1 && l[0].Name == s) && strings.Trim(s, " \t\n\r") == s {
			t.Errorf("Parse of a definition of %.100q: %+v, %d", s, l, e)
		}
	}
	for _, s := range []string{"a", "z", "A", "Z", "x1", "x_", "x__9Z", "or", "and", "not", "true", "false", "null", "this", "len", "sum", "join", "neg", "plus", "Just", "INT", "just1", "just_", "ints", "inn", "i", "lets", "froms", "xin", strings.Repeat("x", 3000), strings.Repeat("map", 30000)} {
		if !IsWord(s) {
			t.Errorf("IsWord(%.100q): false", s)
		}
		check(s)
	}
	for _, s := range slices.Concat(keywords, []string{"", " ", "_", "_x", "0", "1x", "x ", " x", "x.y", "x-y", "\u00e9", "x\u00e9", "x\xff", "\x00", "x\n", "x\x00", "(x)", `"x"`, "x y", "-x", "[", "{", "=", ";", "x;", "in x", "int(", "@", "`x", "x@", "x[", "x`", "x{", "x/", "x:"}) {
		if IsWord(s) {
			t.Errorf("IsWord(%q): true", s)
		}
		for _, other := range []string{s, s + "x", "x" + s, s + "_", s + "0", strings.ToUpper(s), s + s, s[:max(len(s)-1, 0)]} {
			check(other)
		}
	}
	for a := range 256 {
		check(string([]byte{byte(a)}))
		for b := range 256 {
			check(string([]byte{byte(a), byte(b)}))
		}
		check("x" + string([]byte{byte(a)}) + "y")
		check("in" + string([]byte{byte(a)}))
	}
}

// copyOf is the same term, by itself.
func copyOf(t Term) Term {
	t.Keys, t.Weights, t.Isos = slices.Clone(t.Keys), slices.Clone(t.Weights), slices.Clone(t.Isos)
	t.Lit.Items, t.Lit.Keys = slices.Clone(t.Lit.Items), slices.Clone(t.Lit.Keys)
	parts, exprs := t.Parts, t.Exprs
	t.Parts, t.Exprs = nil, nil
	for _, part := range parts {
		t.Parts = append(t.Parts, copyOf(part))
	}
	for _, x := range exprs {
		t.Exprs = append(t.Exprs, copyOfExpr(x))
	}
	return t
}

func copyOfExpr(x expr.Expr) expr.Expr {
	args := x.Args
	x.Args = nil
	for _, arg := range args {
		x.Args = append(x.Args, copyOfExpr(arg))
	}
	return x
}

// spoil changes all that a term's lists hold, spare room included.
func spoil(t Term) {
	for at := range t.Keys[:cap(t.Keys)] {
		t.Keys[:cap(t.Keys)][at] = "spoilt"
	}
	for at := range t.Weights[:cap(t.Weights)] {
		t.Weights[:cap(t.Weights)][at] = -99
	}
	for at := range t.Isos[:cap(t.Isos)] {
		t.Isos[:cap(t.Isos)][at] = iso.Iso{Name: "spoilt"}
	}
	exprs := t.Exprs[:cap(t.Exprs)]
	for at := range exprs {
		spoilExpr(exprs[at])
		exprs[at] = name("spoilt")
	}
	parts := t.Parts[:cap(t.Parts)]
	for at := range parts {
		spoil(parts[at])
		parts[at] = ref("spoilt")
	}
}

func spoilExpr(x expr.Expr) {
	args := x.Args[:cap(x.Args)]
	for at := range args {
		spoilExpr(args[at])
		args[at] = name("spoilt")
	}
}

func TestAnswersAreNew(t *testing.T) { // P8: R6 and R8
	random := rand.New(rand.NewSource(1313))
	for range 500 {
		s := written(random, drawnDefs(random))
		one, _, _ := Parse(s)
		two, _, _ := Parse(s)
		var kept []Def
		for _, d := range two {
			kept = append(kept, Def{d.Name, copyOf(d.Term)})
		}
		// No two lists of one answer share anything.
		for at, d := range one {
			spoil(d.Term)
			if !alikeDefs(one[at+1:], kept[at+1:]) {
				t.Fatalf("%q: terms share something", s)
			}
		}
		for at := range one[:cap(one)] {
			one[:cap(one)][at] = Def{"spoilt", ref("spoilt")}
		}
		three, _, _ := Parse(s)
		if !alikeDefs(two, kept) || !alikeDefs(three, kept) {
			t.Fatalf("%q: answers share something", s)
		}
		checkHanded(t, two, kept)
	}
}

// checkHanded: do definitions that are handed in stay as they were, spare room included?
func checkHanded(t *testing.T, l, kept []Def) {
	t.Helper()
	room := append(make([]Def, 0, len(l)+2), l...)
	text := Print(room)
	for _, d := range room {
		first := d.Term
		first.Parts = append(make([]Term, 0, len(first.Parts)+2), first.Parts...)
		if first.Text() != d.Term.Text() || first.Depth() != d.Term.Depth() || !Same(first, d.Term) || !Same(d.Term, first) {
			t.Fatalf("%q: told otherwise of the same", text)
		}
		if !reflect.DeepEqual(first.Parts[:cap(first.Parts)][len(first.Parts):], make([]Term, 2)) {
			t.Fatalf("%q: spare room is changed", text)
		}
	}
	if !alikeDefs(room, kept) || !reflect.DeepEqual(room[:cap(room)][len(room):], make([]Def, 2)) || Print(room) != text {
		t.Fatalf("%q: what was handed in is changed", text)
	}
}

func TestTermsThatAreNone(t *testing.T) { // P7
	bad := []Term{{Kind: -1}, {Kind: 11}, {Kind: math.MaxInt}, {Kind: math.MinInt}, {Kind: Just, Lit: value.Value{Kind: -1}}, {Kind: Just, Lit: value.Value{Kind: 9}}, {Kind: Just, Lit: value.Value{Kind: value.Obj, Keys: []string{"a"}}}, {Kind: Just, Lit: value.Value{Kind: value.Obj, Items: []value.Value{{}}}}, {Kind: Just, Lit: str("\xff")}, {Kind: Ref, Name: "\xff"}}
	for kind := range 13 {
		bad = append(bad,
			Term{Kind: kind}, Term{Kind: kind, Parts: make([]Term, 1)}, Term{Kind: kind, Parts: make([]Term, 2)}, Term{Kind: kind, Parts: make([]Term, 5)}, Term{Kind: kind, Exprs: make([]expr.Expr, 1)}, Term{Kind: kind, Exprs: make([]expr.Expr, 3)}, Term{Kind: kind, Weights: []int{-5, 0}}, Term{Kind: kind, Keys: []string{"a", "\xff"}}, Term{Kind: kind, Isos: []iso.Iso{{}, {Name: "?"}, {Name: "tag", Key: "\xff"}}}, Term{Kind: kind, Lit: value.Value{Kind: value.Arr, Items: make([]value.Value, 2)}},
			Term{Kind: kind, Parts: make([]Term, 2), Keys: []string{"a"}, Weights: []int{math.MinInt}, Exprs: list(op("?"), op("at"), expr.Expr{Op: "get", Args: make([]expr.Expr, 3)}), Isos: isos("x y"), Lit: str("\xff"), Name: "\x00"},
		)
	}
	for _, a := range bad {
		a.Text()
		Print([]Def{{"", a}, {"\xff", a}})
		if a.Depth() != depthOf(a) {
			t.Errorf("Depth of %+v: %d", a, a.Depth())
		}
		for _, b := range bad {
			if Same(a, b) != Same(b, a) || alike(a, b) && !Same(a, b) {
				t.Errorf("Same of %+v, %+v: %v", a, b, Same(a, b))
			}
		}
	}
	// As deep as anything is.
	const deep = 1 << 16
	for _, kind := range nested {
		x, y, z := nest(deep, kind, ref("b")), nest(deep, kind, ref("b")), nest(deep, kind, ref("c"))
		short := nest(2, kind, ref("b"))
		one := len(short.Text()) - 1
		if x.Depth() != deep || len(x.Text()) != one*(deep-1)+1 || len(Print([]Def{{"a", x}})) != one*(deep-1)+1+6 || !Same(x, y) || Same(x, z) || Same(x, short) {
			t.Errorf("a term of kind %d, and of depth %d: depth %d, %d bytes", kind, deep, x.Depth(), len(x.Text()))
		}
	}
}
