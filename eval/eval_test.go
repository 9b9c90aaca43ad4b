package eval

import (
	"math"
	"math/big"
	"math/rand"
	"reflect"
	"slices"
	"strconv"
	"strings"
	"testing"

	"cheval/api"
	"cheval/expr"
	"cheval/sorts"
	"cheval/value"
)

const (
	least = math.MinInt64
	most  = math.MaxInt64
)

// The samples are written field by field, so that they don't hang on the calls of another package.

func null() value.Value                   { return value.Value{} }
func boolean(b bool) value.Value          { return value.Value{Kind: 1, Bool: b} }
func integer(n int64) value.Value         { return value.Value{Kind: 2, Int: n} }
func text(s string) value.Value           { return value.Value{Kind: 3, Str: s} }
func list(l ...value.Value) value.Value   { return value.Value{Kind: 4, Items: l} }
func lit(v value.Value) expr.Expr         { return expr.Expr{Op: "lit", Lit: v} }
func this() expr.Expr                     { return expr.Expr{Op: "this"} }
func name(s string) expr.Expr             { return expr.Expr{Op: "var", Name: s} }
func get(e expr.Expr, k string) expr.Expr { return expr.Expr{Op: "get", Name: k, Args: []expr.Expr{e}} }
func op(sign string, args ...expr.Expr) expr.Expr {
	return expr.Expr{Op: sign, Args: args}
}

func listOfIntegers(l ...int64) value.Value {
	v := list()
	for _, n := range l {
		v.Items = append(v.Items, integer(n))
	}
	return v
}

func listOfTexts(l ...string) value.Value {
	v := list()
	for _, s := range l {
		v.Items = append(v.Items, text(s))
	}
	return v
}

func listOfTruths(l ...bool) value.Value {
	v := list()
	for _, b := range l {
		v.Items = append(v.Items, boolean(b))
	}
	return v
}

// object has the keys, which must be rising, and an item for each.
func object(keys string, items ...value.Value) value.Value {
	return value.Value{Kind: 5, Keys: strings.Fields(keys), Items: items}
}

// env has the names, and a value for each.
func env(this value.Value, names string, l ...value.Value) Env {
	return Env{This: this, Names: strings.Fields(names), Values: l}
}

// samples are values of all kinds: the edges, and what lies between. (Nobody writes to them.)
var samples = []value.Value{
	null(), boolean(false), boolean(true),
	integer(0), integer(1), integer(-1), integer(2), integer(3), integer(-7), integer(1 << 32), integer(-1 << 32), integer(3037000500), integer(least), integer(least + 1), integer(most), integer(most - 1),
	text(""), text("a"), text("b"), text("ab"), text("ba"), text("aa"), text("A"), text("1"), text("\x00"), text("a\x00"), text("\u00e9"), text("a\u0301"), text("\u20ac"), text("\u20aca"), text("a\u20ac"), text("\U0001F600"), text("\U0001F600\uFFFD"), text("\uFFFD"), text("\U0010FFFF"), text("or"),
	list(), list(null()), listOfIntegers(0), listOfIntegers(2, 3), listOfIntegers(3, 2), listOfIntegers(1, 1, 0, 1), listOfIntegers(most, 1), listOfIntegers(most, 1, -1), listOfIntegers(-1, least, 1), listOfIntegers(least, -1), listOfIntegers(most, most, least, least, 2), listOfIntegers(7, -7),
	listOfTruths(true), listOfTruths(false), listOfTruths(true, true), listOfTruths(true, false), listOfTruths(false, true), listOfTruths(false, false, false),
	listOfTexts("a"), listOfTexts(""), listOfTexts("", ""), listOfTexts("a", "b", "\u20ac"), listOfTexts("or", "a", "or"),
	list(integer(1), text("a")), list(text("a"), integer(1)), list(integer(1), null()), list(boolean(true), null()), list(null(), boolean(true)), list(boolean(false), integer(0)), list(text("a"), text("b"), boolean(true)), list(integer(1), integer(2), list()), list(list(), list(integer(1)), list()), list(object(""), object("a", null()), object("")), list(null(), null(), integer(0)),
	object(""), object("a", null()), object("a", integer(1)), object("a b", integer(1), text("x")), object("A a", list(integer(1)), object("a", boolean(true))), object("or \u20ac", listOfIntegers(2, 3), listOfTexts("b")), {Kind: 5, Keys: []string{""}, Items: []value.Value{text("nothing")}}, {Kind: 5, Keys: []string{"", "a", "ab"}, Items: []value.Value{null(), integer(5), boolean(false)}},
}

// native is a value as one of Go's own: nil, a bool, an int64, a string, a list or a map.
func native(v value.Value) any {
	switch v.Kind {
	case 1:
		return v.Bool
	case 2:
		return v.Int
	case 3:
		return v.Str
	case 4:
		l := []any{}
		for _, item := range v.Items {
			l = append(l, native(item))
		}
		return l
	case 5:
		m := map[string]any{}
		for at, key := range v.Keys {
			m[key] = native(v.Items[at])
		}
		return m
	}
	return nil
}

// kindOf is the word of such a thing's kind.
func kindOf(x any) string {
	switch x.(type) {
	case bool:
		return "bool"
	case int64:
		return "int"
	case string:
		return "text"
	case []any:
		return "list"
	case map[string]any:
		return "object"
	}
	return "null"
}

// rule: in which ways the Args' kinds may come (any: whatever), which kind all items of the first one must have, and what is made of them.
type rule struct {
	ways  string
	items string
	made  func(a, b any) (any, api.Errno)
}

// well is what is made where nothing can be wrong.
func well(do func(a, b any) any) func(a, b any) (any, api.Errno) {
	return func(a, b any) (any, api.Errno) { return do(a, b), api.OK }
}

// exact is an integer, reckoned without an end.
func exact(n *big.Int) (any, api.Errno) {
	if !n.IsInt64() {
		return nil, api.ErrOver
	}
	return n.Int64(), api.OK
}

// reckoned is what a way of big numbers makes of two.
func reckoned(do func(z, x, y *big.Int) *big.Int) func(a, b any) (any, api.Errno) {
	return func(a, b any) (any, api.Errno) {
		return exact(do(new(big.Int), big.NewInt(a.(int64)), big.NewInt(b.(int64))))
	}
}

// divided is reckoned, but nothing is divided by 0.
func divided(do func(z, x, y *big.Int) *big.Int) func(a, b any) (any, api.Errno) {
	return func(a, b any) (any, api.Errno) {
		if b.(int64) == 0 {
			return nil, api.ErrZero
		}
		return reckoned(do)(a, b)
	}
}

// compared is a test of two integers, or two texts.
func compared(signs ...int) func(a, b any) (any, api.Errno) {
	return func(a, b any) (any, api.Errno) {
		if n, ok := a.(int64); ok {
			return slices.Contains(signs, big.NewInt(n).Cmp(big.NewInt(b.(int64)))), api.OK
		}
		return slices.Contains(signs, slices.Compare([]byte(a.(string)), []byte(b.(string)))), api.OK
	}
}

// extreme is the item behind, or ahead of, which no other one is.
func extreme(sign int) func(a, b any) (any, api.Errno) {
	return func(a, b any) (any, api.Errno) {
		l := slices.Clone(a.([]any))
		slices.SortFunc(l, func(x, y any) int { return sign * big.NewInt(x.(int64)).Cmp(big.NewInt(y.(int64))) })
		if len(l) == 0 {
			return nil, api.ErrNone
		}
		return l[0], api.OK
	}
}

// rules are those of all Ops that aren't leaves, by the words of the document (of get b is the key).
var rules = map[string]rule{
	"get": {"object", "", func(a, b any) (any, api.Errno) {
		if item, ok := a.(map[string]any)[b.(string)]; ok {
			return item, api.OK
		}
		return nil, api.ErrNone
	}},
	"at": {"list int", "", func(a, b any) (any, api.Errno) {
		for at, item := range a.([]any) {
			if int64(at) == b.(int64) {
				return item, api.OK
			}
		}
		return nil, api.ErrNone
	}},
	"or": {"bool bool", "", well(func(a, b any) any { return a.(bool) || b.(bool) })}, "and": {"bool bool", "", well(func(a, b any) any { return a.(bool) && b.(bool) })}, "not": {"bool", "", well(func(a, b any) any { return !a.(bool) })},
	"==": {"any any", "", well(func(a, b any) any { return reflect.DeepEqual(a, b) })}, "!=": {"any any", "", well(func(a, b any) any { return !reflect.DeepEqual(a, b) })},
	"<": {"int int,text text", "", compared(-1)}, "<=": {"int int,text text", "", compared(-1, 0)}, ">": {"int int,text text", "", compared(1)}, ">=": {"int int,text text", "", compared(0, 1)},
	"+": {"int int", "", reckoned((*big.Int).Add)}, "-": {"int int", "", reckoned((*big.Int).Sub)}, "*": {"int int", "", reckoned((*big.Int).Mul)}, "/": {"int int", "", divided((*big.Int).Quo)}, "%": {"int int", "", divided((*big.Int).Rem)},
	"neg": {"int", "", func(a, b any) (any, api.Errno) { return exact(new(big.Int).Neg(big.NewInt(a.(int64)))) }},
	"len": {"text,list,object", "", well(func(a, b any) any {
		switch x := a.(type) {
		case []any:
			return int64(len(x))
		case map[string]any:
			return int64(len(x))
		}
		return int64(len([]rune(a.(string))))
	})},
	"sum": {"list", "int", func(a, b any) (any, api.Errno) {
		sum := new(big.Int)
		for _, item := range a.([]any) {
			sum.Add(sum, big.NewInt(item.(int64)))
		}
		return exact(sum)
	}},
	"min": {"list", "int", extreme(1)}, "max": {"list", "int", extreme(-1)},
	"all": {"list", "bool", well(func(a, b any) any { return !slices.Contains(a.([]any), any(false)) })}, "any": {"list", "bool", well(func(a, b any) any { return slices.Contains(a.([]any), any(true)) })},
	"keys": {"object", "", well(func(a, b any) any {
		l := []any{}
		for key := range a.(map[string]any) {
			l = append(l, key)
		}
		slices.SortFunc(l, func(x, y any) int { return strings.Compare(x.(string), y.(string)) })
		return l
	})},
	"has": {"object text", "", well(func(a, b any) any { _, ok := a.(map[string]any)[b.(string)]; return ok })},
	"count": {"list any", "", well(func(a, b any) any {
		many := int64(0)
		for _, item := range a.([]any) {
			if reflect.DeepEqual(item, b) {
				many++
			}
		}
		return many
	})},
	"starts": {"text text", "", well(func(a, b any) any {
		x, y := []rune(a.(string)), []rune(b.(string))
		return len(x) >= len(y) && slices.Equal(x[:len(y)], y)
	})},
	"ends": {"text text", "", well(func(a, b any) any {
		x, y := []rune(a.(string)), []rune(b.(string))
		return len(x) >= len(y) && slices.Equal(x[len(x)-len(y):], y)
	})},
	"join": {"list text", "text", well(func(a, b any) any {
		made := ""
		for at, item := range a.([]any) {
			if at > 0 {
				made += b.(string)
			}
			made += item.(string)
		}
		return made
	})},
}

// signs are the rules' Ops, rising, so that the tests hang on no map's order.
var signs = func() []string {
	var l []string
	for sign := range rules {
		l = append(l, sign)
	}
	slices.Sort(l)
	return l
}()

// argsOf is how many Args an Op has; -1 of what is none, or a leaf.
func argsOf(sign string) int {
	r, ok := rules[sign]
	if !ok {
		return -1
	}
	first, _, _ := strings.Cut(r.ways, ",")
	return len(strings.Fields(first))
}

// fits: are the Args of kinds that one of the ways asks for?
func (r rule) fits(args []any) bool {
	ok := slices.ContainsFunc(strings.Split(r.ways, ","), func(way string) bool {
		return slices.EqualFunc(strings.Fields(way), args, func(word string, arg any) bool { return word == "any" || word == kindOf(arg) })
	})
	if !ok || r.items == "" {
		return ok
	}
	for _, item := range args[0].([]any) {
		if kindOf(item) != r.items {
			return false
		}
	}
	return true
}

// told is what the words of the chapter tell of an expression, reckoned with Go's own things.
func told(e expr.Expr, in Env) (any, api.Errno) {
	var args []any
	first := api.OK
	for _, arg := range e.Args {
		x, errno := told(arg, in)
		if first == api.OK {
			first = errno
		}
		args = append(args, x)
	}
	if first != api.OK {
		return nil, first
	}
	switch e.Op {
	case "lit":
		return native(e.Lit), api.OK
	case "this":
		return native(in.This), api.OK
	case "var":
		for at, known := range in.Names {
			if known == e.Name {
				return native(in.Values[at]), api.OK
			}
		}
		return nil, api.ErrName
	}
	r := rules[e.Op]
	if !r.fits(args) {
		return nil, api.ErrKind
	}
	args = append(args, e.Name)
	return r.made(args[0], args[1])
}

// alike holds two values against each other field by field; an empty list is nil or empty (R5).
func alike(a, b value.Value) bool {
	if a.Kind != b.Kind || a.Bool != b.Bool || a.Int != b.Int || a.Str != b.Str {
		return false
	}
	return slices.Equal(a.Keys, b.Keys) && slices.EqualFunc(a.Items, b.Items, alike)
}

// sizeOf is a value's size, by the words of chapter 3.
func sizeOf(v value.Value) int {
	size := 1
	for _, item := range v.Items {
		size += sizeOf(item)
	}
	return size
}

// greatest is the size that none may be above: the environment's greatest, the Lits', and 1.
func greatest(e expr.Expr, in Env) int {
	size := max(1, sizeOf(in.This), sizeOf(e.Lit))
	for _, v := range in.Values {
		size = max(size, sizeOf(v))
	}
	for _, arg := range e.Args {
		size = max(size, greatest(arg, Env{}))
	}
	return size
}

// checkTold holds all three calls against the words, against the sorts, and against the size that may be.
func checkTold(t *testing.T, e expr.Expr, in Env) {
	t.Helper()
	got, errno := Eval(e, in)
	want, wantE := told(e, in)
	if errno != wantE || !reflect.DeepEqual(native(got), want) || !got.Good() || errno != api.OK && !alike(got, null()) {
		t.Errorf("P10.1: Eval(%s) where %+v: %+v, %d; want %v, %d", expr.Print(e), in, got, errno, want, wantE)
	}
	b, errno := Holds(e, in)
	wantB, isTruth := want.(bool)
	if wanted := errorOf(isTruth, wantE); b != wantB || errno != wanted {
		t.Errorf("P10.1: Holds(%s) where %+v: %v, %d; want %v, %d", expr.Print(e), in, b, errno, wantB, wanted)
	}
	n, errno := Whole(e, in)
	wantN, isInteger := want.(int64)
	if wanted := errorOf(isInteger, wantE); n != wantN || errno != wanted {
		t.Errorf("P10.1: Whole(%s) where %+v: %d, %d; want %d, %d", expr.Print(e), in, n, errno, wantN, wanted)
	}
	checkSorts(t, e, in)
	if size := sizeOf(got); size > greatest(e, in) {
		t.Errorf("P10.3: Eval(%s) where %+v: size %d", expr.Print(e), in, size)
	}
}

// errorOf is the error where a value must be of a kind.
func errorOf(ok bool, errno api.Errno) api.Errno {
	if errno == api.OK && !ok {
		return api.ErrKind
	}
	return errno
}

// checkSorts holds a value against the sorts that chapter 9 tells.
func checkSorts(t *testing.T, e expr.Expr, in Env) {
	t.Helper()
	known := sorts.Env{This: sorts.Of(in.This), Names: in.Names}
	for _, v := range in.Values {
		known.Sorts = append(known.Sorts, sorts.Of(v))
	}
	got, errno := Eval(e, in)
	switch s, why := sorts.Check(e, known); {
	case why == api.OK && (errno == api.ErrName || errno == api.OK && !s.Has(got.Kind)):
		t.Errorf("P10.2: Eval(%s) where %+v: %+v, %d; Check tells %s", expr.Print(e), in, got, errno, s.Text())
	case why == api.ErrKind && errno == api.OK:
		t.Errorf("P10.2: Eval(%s) where %+v: %+v, but Check tells that it may not be", expr.Print(e), in, got)
	case why == api.ErrName && errno == api.OK:
		t.Errorf("P10.2: Eval(%s) where %+v: %+v, but Check misses a name", expr.Print(e), in, got)
	}
}

// parsed is the tree of a text that must be one.
func parsed(t *testing.T, s string) expr.Expr {
	t.Helper()
	e, place, errno := expr.Parse(s)
	if errno != api.OK {
		t.Fatalf("%s: %d, %d", s, place, errno)
	}
	return e
}

func TestExample(t *testing.T) { // P10.1
	e, in := parsed(t, "sum(this) * len(this)"), Env{This: listOfIntegers(2, 3)}
	if v, errno := Eval(e, in); !alike(v, integer(10)) || errno != api.OK {
		t.Errorf("Eval: %+v, %d", v, errno)
	}
	if n, errno := Whole(e, in); n != 10 || errno != api.OK {
		t.Errorf("Whole: %d, %d", n, errno)
	}
	if b, errno := Holds(e, in); b || errno != api.ErrKind {
		t.Errorf("Holds: %v, %d", b, errno)
	}
}

// byHand is the environment of what is written by hand below.
func byHand() Env {
	o := value.Value{Kind: 5, Keys: []string{"", "a", "b", "or"}, Items: []value.Value{text("empty"), integer(1), list(integer(4), object("a", text("deep"))), null()}}
	return env(o, "n f y i z t l e o", null(), boolean(false), boolean(true), integer(7), integer(0), text("a\u20acb"), listOfIntegers(3, -1, 3), list(), object(""))
}

func TestByHand(t *testing.T) { // P10.1
	in := byHand()
	for s, want := range map[string]value.Value{
		"null": null(), "true": boolean(true), "false": boolean(false), "0": integer(0), `"a"`: text("a"), "this": in.This, "n": null(), "l": listOfIntegers(3, -1, 3), "e": list(), "o": object(""),
		"this.a": integer(1), `this."a"`: integer(1), `this.""`: text("empty"), "this.or": null(), "this.b[1].a": text("deep"), "this.b": list(integer(4), object("a", text("deep"))),
		"l[0]": integer(3), "l[1]": integer(-1), "l[2]": integer(3), "l[len(l) - 1]": integer(3), "l[this.a]": integer(-1), "this.b[0]": integer(4), "l[-0]": integer(3),
		"f or f": boolean(false), "f or y": boolean(true), "y or f": boolean(true), "y or y": boolean(true), "f and f": boolean(false), "f and y": boolean(false), "y and f": boolean(false), "y and y": boolean(true), "not f": boolean(true), "not y": boolean(false), "not not y": boolean(true),
		"n == n": boolean(true), "n == f": boolean(false), "z == f": boolean(false), "1 == 1": boolean(true), "1 == 2": boolean(false), `1 == "1"`: boolean(false), "e == o": boolean(false), "e == e": boolean(true), "o == o": boolean(true), "this == this": boolean(true), "this != this": boolean(false), "this != o": boolean(true), "l == l": boolean(true), "l != e": boolean(true), `t == "a€b"`: boolean(true), "n != z": boolean(true),
		"1 < 2": boolean(true), "2 < 2": boolean(false), "2 <= 2": boolean(true), "3 <= 2": boolean(false), "2 > 1": boolean(true), "2 > 2": boolean(false), "2 >= 2": boolean(true), "1 >= 2": boolean(false), "-1 < 0": boolean(true), "10 > 9": boolean(true), `"10" > "9"`: boolean(false), `"" < "a"`: boolean(true), `"a" < "b"`: boolean(true), `"Z" < "a"`: boolean(true), `"a" >= "ab"`: boolean(false), `"a" <= "a"`: boolean(true), `"\uffff" < "\ud83d\ude00"`: boolean(true),
		"1 + 2": integer(3), "1 - 2": integer(-1), "i * -i": integer(-49), "i / 2": integer(3), "-i / 2": integer(-3), "i / -2": integer(-3), "-i % 2": integer(-1), "i % -2": integer(1), "z / i": integer(0), "-z": integer(0), "9223372036854775807 + -0": integer(most), "-9223372036854775807 - 1": integer(least), "(-9223372036854775807 - 1) % -1": integer(0), "(-9223372036854775807 - 1) / 1": integer(least), "1 + 2 * i": integer(15),
		"len(t)": integer(3), `len("")`: integer(0), `len("\ud83d\ude00\u00e9")`: integer(2), "len(l)": integer(3), "len(e)": integer(0), "len(this)": integer(4), "len(o)": integer(0), "len(this.b)": integer(2),
		"sum(l)": integer(5), "sum(e)": integer(0), "min(l)": integer(-1), "max(l)": integer(3), "count(l, 3)": integer(2), "count(l, 4)": integer(0), `count(l, "3")`: integer(0), "count(e, n)": integer(0), `count(this.b, this.b[1])`: integer(1),
		"all(e)": boolean(true), "any(e)": boolean(false),
		"keys(this)": listOfTexts("", "a", "b", "or"), "keys(o)": list(), "keys(this)[3]": text("or"),
		`has(this, "a")`: boolean(true), `has(this, "")`: boolean(true), `has(this, "or")`: boolean(true), `has(this, "c")`: boolean(false), `has(this, "A")`: boolean(false), `has(o, "")`: boolean(false),
		`starts(t, "a")`: boolean(true), "starts(t, t)": boolean(true), `starts(t, "")`: boolean(true), `starts("", "")`: boolean(true), `starts("", t)`: boolean(false), `starts(t, "€")`: boolean(false), `starts("a", t)`: boolean(false), `ends(t, "€b")`: boolean(true), `ends(t, "a")`: boolean(false), `ends(t, "")`: boolean(true), `ends("b", t)`: boolean(false),
		`join(keys(this), ", ")`: text(", a, b, or"), `join(keys(this), "")`: text("abor"), "join(e, t)": text(""), "join(keys(o), t)": text(""), `join(keys(this.b[1]), ",")`: text("a"),
	} {
		e := parsed(t, s)
		if got, errno := Eval(e, in); !alike(got, want) || errno != api.OK {
			t.Errorf("Eval(%s): %+v, %d; want %+v", s, got, errno, want)
		}
		checkTold(t, e, in)
	}
}

func TestErrorsByHand(t *testing.T) { // P10.1
	in := byHand().With("mixed", list(integer(1), boolean(true), text("a")))
	for s, want := range map[string]api.Errno{
		// A var without a value.
		"q": api.ErrName, "I": api.ErrName, "ii": api.ErrName, "not q": api.ErrName, "q.a": api.ErrName, "a": api.ErrName,
		// Of other kinds than they must.
		"l.a": api.ErrKind, "n.a": api.ErrKind, "t.a": api.ErrKind, "i.a": api.ErrKind, `this["a"]`: api.ErrKind, "this[0]": api.ErrKind, `l["0"]`: api.ErrKind, "t[0]": api.ErrKind, "l[n]": api.ErrKind, "l[l]": api.ErrKind,
		"1 or y": api.ErrKind, "y or 1": api.ErrKind, "y or n": api.ErrKind, "f and 1": api.ErrKind, "n and f": api.ErrKind, "not 0": api.ErrKind, "not n": api.ErrKind, "not e": api.ErrKind,
		`1 < "1"`: api.ErrKind, `"1" >= 1`: api.ErrKind, "f < y": api.ErrKind, "n <= n": api.ErrKind, "l < l": api.ErrKind, "o >= o": api.ErrKind, "e > l": api.ErrKind, "1 < l": api.ErrKind, "t > l": api.ErrKind,
		"1 + t": api.ErrKind, "t + t": api.ErrKind, "l + l": api.ErrKind, "n - 1": api.ErrKind, "y * 2": api.ErrKind, "1 / t": api.ErrKind, "1 % n": api.ErrKind, "-t": api.ErrKind, "-n": api.ErrKind, "-y": api.ErrKind, "-l": api.ErrKind,
		"len(1)": api.ErrKind, "len(n)": api.ErrKind, "len(y)": api.ErrKind, "sum(o)": api.ErrKind, "sum(1)": api.ErrKind, "min(t)": api.ErrKind, "max(n)": api.ErrKind, "all(y)": api.ErrKind, "any(o)": api.ErrKind, "keys(l)": api.ErrKind, "keys(t)": api.ErrKind,
		`has(l, "0")`: api.ErrKind, "has(this, 1)": api.ErrKind, "has(this, n)": api.ErrKind, "count(o, n)": api.ErrKind, "count(t, t)": api.ErrKind, "starts(t, 1)": api.ErrKind, "starts(l, 3)": api.ErrKind, "ends(1, t)": api.ErrKind, "ends(l, l)": api.ErrKind, "join(t, t)": api.ErrKind, "join(e, 1)": api.ErrKind, "join(e, l)": api.ErrKind, "join(o, t)": api.ErrKind,
		// An array that has others than it must.
		"sum(mixed)": api.ErrKind, "min(mixed)": api.ErrKind, "max(mixed)": api.ErrKind, "all(mixed)": api.ErrKind, "any(mixed)": api.ErrKind, "join(mixed, t)": api.ErrKind, "all(l)": api.ErrKind, "any(l)": api.ErrKind, "join(l, t)": api.ErrKind, "sum(keys(this))": api.ErrKind, "max(keys(this))": api.ErrKind, "all(keys(this))": api.ErrKind, "sum(this.b)": api.ErrKind, "min(this.b)": api.ErrKind,
		// Nothing is there.
		"this.c": api.ErrNone, "this.A": api.ErrNone, "this.aa": api.ErrNone, "o.a": api.ErrNone, `o.""`: api.ErrNone, "this.b[2]": api.ErrNone, "l[3]": api.ErrNone, "l[-1]": api.ErrNone, "e[0]": api.ErrNone, "e[-1]": api.ErrNone, "l[9223372036854775807]": api.ErrNone, "l[-9223372036854775807 - 1]": api.ErrNone, "l[4294967296]": api.ErrNone, "min(e)": api.ErrNone, "max(e)": api.ErrNone, "max(keys(o))": api.ErrNone,
		// Chapter 2's.
		"1 / 0": api.ErrZero, "z / z": api.ErrZero, "1 % z": api.ErrZero, "9223372036854775807 + 1": api.ErrOver, "-9223372036854775807 - 2": api.ErrOver, "9223372036854775807 * 2": api.ErrOver, "(-9223372036854775807 - 1) / -1": api.ErrOver, "(-9223372036854775807 - 1) * -1": api.ErrOver, "-(-9223372036854775807 - 1)": api.ErrOver, "(-9223372036854775807 - 1) % 0": api.ErrZero,
		// Both Args are always had.
		"y or 1 / 0 == 1": api.ErrZero, "f and e[0]": api.ErrNone, "y or q": api.ErrName, "f and q": api.ErrName, "n == 1 / 0": api.ErrZero, "count(e, 1 / 0)": api.ErrZero, "join(e, e[0])": api.ErrNone, "z * (1 / 0)": api.ErrZero, "has(o, o.a)": api.ErrNone,
		// The first error of the Args, in order, ahead of the expression's own.
		"q + 1 / 0": api.ErrName, "1 / 0 + q": api.ErrZero, "e[0] or q": api.ErrNone, "t + 1 / 0": api.ErrZero, "1 or q": api.ErrName, "q or 1": api.ErrName, "l[q]": api.ErrName, "n[1 / 0]": api.ErrZero, "(1 / 0)[q]": api.ErrZero, "len(n) == e[0]": api.ErrKind, "e[0] == len(n)": api.ErrNone, "(y + 1) * min(e)": api.ErrKind, "min(e) * (y + 1)": api.ErrNone, "not (q / 0)": api.ErrName, "not (1 / 0)": api.ErrZero, "len(9223372036854775807 + 1)": api.ErrOver,
		"t / z": api.ErrKind, "sum(mixed) / z": api.ErrKind, "-(1 / 0)": api.ErrZero,
	} {
		e := parsed(t, s)
		if got, errno := Eval(e, in); !alike(got, null()) || errno != want {
			t.Errorf("Eval(%s): %+v, %d; want %d", s, got, errno, want)
		}
		if got, errno := Holds(e, in); got || errno != want {
			t.Errorf("Holds(%s): %v, %d; want %d", s, got, errno, want)
		}
		if got, errno := Whole(e, in); got != 0 || errno != want {
			t.Errorf("Whole(%s): %d, %d; want %d", s, got, errno, want)
		}
		checkTold(t, e, in)
	}
}

func TestHoldsAndWhole(t *testing.T) { // P10.1
	for _, v := range samples {
		for _, e := range []expr.Expr{lit(v), this(), name("x"), get(name("o"), "k"), op("at", name("l"), lit(integer(0)))} {
			in := env(v, "x o l", v, object("k", v), list(v))
			b, errno := Holds(e, in)
			if wanted := errorOf(v.Kind == value.Bool, api.OK); b != v.Bool || errno != wanted {
				t.Errorf("Holds of %+v: %v, %d", v, b, errno)
			}
			n, errno := Whole(e, in)
			if wanted := errorOf(v.Kind == value.Int, api.OK); n != v.Int || errno != wanted {
				t.Errorf("Whole of %+v: %d, %d", v, n, errno)
			}
			checkTold(t, e, in)
		}
	}
}

// TestEachOp holds each Op, of Args of any values, against the words.
func TestEachOp(t *testing.T) { // P10.1, P10.2 and P10.3
	if len(signs) != 29 {
		t.Fatalf("%d Ops", len(signs))
	}
	many := map[api.Errno]int{}
	for _, sign := range signs {
		for _, a := range samples {
			if sign == "get" {
				for _, key := range []string{"", "a", "b", "ab", "A", "aa", "or", "\u20ac", "\x00"} {
					checkTold(t, get(this(), key), Env{This: a})
				}
				continue
			}
			if argsOf(sign) == 1 {
				checkTold(t, op(sign, this()), Env{This: a})
				checkTold(t, op(sign, lit(a)), Env{})
				continue
			}
			for _, b := range samples {
				e, in := op(sign, this(), name("x")), env(a, "y x", a, b)
				checkTold(t, e, in)
				checkTold(t, op(sign, lit(a), lit(b)), Env{})
				_, errno := Eval(e, in)
				many[errno]++
			}
		}
	}
	for _, errno := range []api.Errno{api.OK, api.ErrKind, api.ErrNone, api.ErrZero, api.ErrOver} {
		if many[errno] < 20 {
			t.Errorf("error %d came %d times", errno, many[errno])
		}
	}
}

// leaves are of each kind that Parse may answer, of what an environment has, and of a name that none has.
func leaves() []expr.Expr {
	return []expr.Expr{lit(null()), lit(boolean(false)), lit(boolean(true)), lit(integer(0)), lit(integer(2)), lit(text("a")), this(), name("x"), name("q")}
}

// over are all Ops over some Args.
func over(first, second []expr.Expr) []expr.Expr {
	var l []expr.Expr
	for _, sign := range signs {
		for _, a := range first {
			if argsOf(sign) == 1 {
				e := op(sign, a)
				if sign == "get" {
					e.Name = "a"
				}
				l = append(l, e)
				continue
			}
			for _, b := range second {
				l = append(l, op(sign, a, b))
			}
		}
	}
	return l
}

func TestSmallTrees(t *testing.T) { // P10.1, P10.2 and P10.3
	flat := leaves()
	two := over(flat, flat)
	envs := []Env{
		env(listOfIntegers(2, 0, -1), "x", object("a b", integer(1), text("b"))),
		env(object("a", listOfTruths(true, false)), "x", integer(1)),
		env(listOfTexts("a", "b"), "x", text("ab")),
		env(object("a", object("a", list())), "x", list(object("a", integer(most)))),
	}
	for _, in := range envs {
		for _, e := range slices.Concat(flat, two, over(two, flat[4:8:8])) {
			checkTold(t, e, in)
		}
	}
	for _, e := range over(flat[2:], two) {
		checkTold(t, e, envs[0])
	}
}

// drawn is a tree that numbers lead to, of at most so many levels, which most often tries to be of a kind.
func drawn(random *rand.Rand, deep int, kind string) expr.Expr {
	if deep == 1 || random.Intn(6) == 0 {
		return leaf(random, kind)
	}
	l := map[string]string{
		"null": "at get", "bool": "or and not == != < <= > >= all any has starts ends at get", "int": "+ - * / % neg len sum min max count at get", "text": "join at get", "list": "keys at get", "object": "at get",
	}[kind]
	sign := strings.Fields(l)[random.Intn(len(strings.Fields(l)))]
	if random.Intn(40) == 0 {
		sign = signs[random.Intn(len(signs))]
	}
	ways := strings.Split(rules[sign].ways, ",")
	e := op(sign)
	for _, word := range strings.Fields(ways[random.Intn(len(ways))]) {
		if word == "any" {
			word = kinds[random.Intn(len(kinds))]
		}
		e.Args = append(e.Args, drawn(random, deep-1, word))
	}
	if sign == "get" {
		e.Name = []string{"a", "b", "or", ""}[random.Intn(4)]
	}
	return e
}

var kinds = strings.Fields("null bool int text list object")

// leaf is one that numbers lead to: a Lit of a kind, this, or a name.
func leaf(random *rand.Rand, kind string) expr.Expr {
	if random.Intn(40) == 0 {
		return leaves()[random.Intn(9)]
	}
	switch at := slices.Index(kinds, kind); {
	case at < value.Arr && random.Intn(3) == 0:
		for {
			if v := samples[random.Intn(len(samples))]; v.Kind == at {
				return lit(v)
			}
		}
	case random.Intn(3) == 0:
		return this()
	default:
		return name("any" + kind)
	}
}

// drawnValue is one that numbers lead to, of at most so many levels.
func drawnValue(random *rand.Rand, deep int) value.Value {
	if deep == 0 || random.Intn(2) == 0 {
		return samples[random.Intn(len(samples))]
	}
	v := value.Value{Kind: 4 + random.Intn(2)}
	for range random.Intn(4) {
		v.Items = append(v.Items, drawnValue(random, deep-1))
	}
	if v.Kind == value.Obj {
		v.Keys = []string{"", "a", "b", "or"}[random.Intn(2):][:len(v.Items)]
	}
	return v
}

// drawnEnv is one that numbers lead to: of each kind there is a name that most often has a value of it.
func drawnEnv(random *rand.Rand) Env {
	in := Env{This: drawnValue(random, 3)}
	for at, kind := range kinds {
		v := drawnValue(random, 2)
		for v.Kind != at && random.Intn(20) > 0 {
			v = drawnValue(random, 2)
		}
		in.Names, in.Values = append(in.Names, "any"+kind), append(in.Values, v)
	}
	return in
}

func TestDrawnTrees(t *testing.T) { // P10.1, P10.2 and P10.3
	random := rand.New(rand.NewSource(10))
	many := map[api.Errno]int{}
	for range 60000 {
		e, in := drawn(random, 1+random.Intn(5), kinds[random.Intn(6)]), drawnEnv(random)
		checkTold(t, e, in)
		got, errno := Eval(e, in)
		many[errno]++
		// In which order the names stand, and what others there are, doesn't matter.
		other := Env{This: in.This}
		for _, at := range random.Perm(6) {
			other = other.With(in.Names[at], integer(1))
			other = other.With("more", got).With(in.Names[at], in.Values[at])
		}
		if again, errno2 := Eval(e, other); !alike(again, got) || errno2 != errno {
			t.Errorf("Eval(%s): %+v, %d; with names in another order %+v, %d", expr.Print(e), got, errno, again, errno2)
		}
	}
	for _, errno := range []api.Errno{api.OK, api.ErrKind, api.ErrName, api.ErrNone, api.ErrZero, api.ErrOver} {
		if many[errno] < 50 {
			t.Errorf("error %d came %d times", errno, many[errno])
		}
	}
	if len(many) != 6 {
		t.Errorf("errors %v", many)
	}
}

func TestWithAndFind(t *testing.T) { // P10.1
	random := rand.New(rand.NewSource(100))
	names := []string{"", "a", "b", "A", "ab", "or", "\u20ac"}
	for range 300 {
		in, known := Env{This: drawnValue(random, 2)}, map[string]value.Value{}
		for range random.Intn(12) {
			s, v := names[random.Intn(len(names))], drawnValue(random, 2)
			made := in.With(s, v)
			if !alike(made.This, in.This) {
				t.Errorf("With(%q): this is %+v", s, made.This)
			}
			in, known[s] = made, v
		}
		if len(in.Names) != len(known) || len(in.Values) != len(known) {
			t.Errorf("%d names, %d values; want %d", len(in.Names), len(in.Values), len(known))
		}
		for _, s := range names {
			v, ok := in.Find(s)
			if want, wanted := known[s]; ok != wanted || !alike(v, want) {
				t.Errorf("Find(%q): %+v, %v; want %+v", s, v, ok, want)
			}
			e, errno := Eval(name(s), in)
			if !alike(e, v) || (errno == api.OK) != ok || !ok && errno != api.ErrName {
				t.Errorf("Eval(%q): %+v, %d", s, e, errno)
			}
		}
	}
}

func TestWithByHand(t *testing.T) { // P10.1
	one := Env{This: text("it")}.With("x", integer(1))
	two := one.With("y", integer(2))
	three := two.With("x", list(null()))
	for _, c := range []struct {
		in   Env
		want string
	}{{one, "x"}, {two, "x y"}, {three, "x y"}} {
		if !slices.Equal(c.in.Names, strings.Fields(c.want)) || len(c.in.Values) != len(c.in.Names) || !alike(c.in.This, text("it")) {
			t.Errorf("%+v; want the names %s", c.in, c.want)
		}
	}
	for _, c := range []struct {
		in   Env
		name string
		want value.Value
		ok   bool
	}{
		{Env{}, "x", null(), false}, {Env{}, "", null(), false}, {one, "x", integer(1), true}, {one, "y", null(), false}, {two, "x", integer(1), true}, {two, "y", integer(2), true}, {two, "Y", null(), false}, {two, "", null(), false}, {three, "x", list(null()), true}, {three, "y", integer(2), true}, {Env{}.With("n", null()), "n", null(), true},
	} {
		if v, ok := c.in.Find(c.name); !alike(v, c.want) || ok != c.ok {
			t.Errorf("Find(%q): %+v, %v", c.name, v, ok)
		}
	}
	// As many names as one likes.
	many := Env{}
	for at := range 600 {
		many = many.With("x"+strconv.Itoa(at), integer(int64(at)))
	}
	for at := range 600 {
		if n, errno := Whole(name("x"+strconv.Itoa(at)), many); n != int64(at) || errno != api.OK {
			t.Errorf("name %d of many: %d, %d", at, n, errno)
		}
	}
}

// frozen is a value as a text, by which it is seen whether it was changed, spare room too.
func frozen(v value.Value) string {
	var b strings.Builder
	freeze(&b, v)
	return b.String()
}

func freeze(b *strings.Builder, v value.Value) {
	b.WriteString(strconv.Itoa(v.Kind) + strconv.FormatBool(v.Bool) + strconv.FormatInt(v.Int, 10) + strconv.Quote(v.Str) + "(")
	for _, key := range v.Keys[:cap(v.Keys)] {
		b.WriteString(strconv.Quote(key) + ",")
	}
	b.WriteString(")[")
	for _, item := range v.Items[:cap(v.Items)] {
		freeze(b, item)
		b.WriteString(",")
	}
	b.WriteString("]")
}

// frozenEnv is that of an environment.
func frozenEnv(in Env) string {
	values := value.Value{Kind: value.Obj, Keys: in.Names, Items: in.Values}
	return frozen(in.This) + frozen(values)
}

// frozenTree is that of a tree.
func frozenTree(e expr.Expr) string {
	s := e.Op + strconv.Quote(e.Name) + frozen(e.Lit) + "{"
	for _, arg := range e.Args[:cap(e.Args)] {
		s += frozenTree(arg)
	}
	return s + "}"
}

// spoil writes to all that a value has, spare room too.
func spoil(v value.Value) {
	for at := range v.Keys[:cap(v.Keys)] {
		v.Keys[:cap(v.Keys)][at] = "spoilt"
	}
	for at := range v.Items[:cap(v.Items)] {
		item := &v.Items[:cap(v.Items)][at]
		spoil(*item)
		*item = text("spoilt")
	}
}

func spoilEnv(in Env) {
	spoil(in.This)
	spoil(value.Value{Keys: in.Names, Items: in.Values})
}

func spoilTree(e expr.Expr) {
	spoil(e.Lit)
	for at := range e.Args[:cap(e.Args)] {
		arg := &e.Args[:cap(e.Args)][at]
		spoilTree(*arg)
		*arg = name("spoilt")
	}
}

// roomy is a list with spare room behind it.
func roomy[T any](spare T, l ...T) []T {
	l = append(make([]T, 0, len(l)+3), l...)
	l[:len(l)+1][len(l)] = spare
	return l
}

// roomyValue is an object whose lists have spare room behind them.
func roomyValue() value.Value {
	inner := value.Value{Kind: 4, Items: roomy(text("spare"), listOfIntegers(1, 2), listOfIntegers(3), object("a", list(null())))}
	return value.Value{Kind: 5, Keys: roomy("spare", "a", "b"), Items: roomy(text("spare"), inner, object("c", list(integer(1))))}
}

func roomyEnv() Env {
	return Env{This: roomyValue(), Names: roomy("spare", "x", "y"), Values: roomy(text("spare"), list(roomyValue()), roomyValue())}
}

// roomyTree is one of an Op over others, whose Args have spare room behind them.
func roomyTree(sign string, args ...expr.Expr) expr.Expr {
	return expr.Expr{Op: sign, Args: roomy(name("spare"), args...)}
}

// TestNothingIsShared spoils each answer, and what was handed in, and looks whether anything else was changed.
func TestNothingIsShared(t *testing.T) { // P8: R6 and R8
	a := func(e expr.Expr) expr.Expr { return expr.Expr{Op: "get", Name: "a", Args: roomy(name("spare"), e)} }
	zero := func() expr.Expr { return lit(integer(0)) }
	for what, tree := range map[string]func() expr.Expr{
		"lit":        func() expr.Expr { return lit(roomyValue()) },
		"this":       this,
		"var":        func() expr.Expr { return name("x") },
		"last var":   func() expr.Expr { return name("y") },
		"get":        func() expr.Expr { return a(this()) },
		"get of lit": func() expr.Expr { return a(lit(roomyValue())) },
		"at":         func() expr.Expr { return roomyTree("at", name("x"), zero()) },
		"keys":       func() expr.Expr { return roomyTree("keys", name("y")) },
		"deep at":    func() expr.Expr { return roomyTree("at", a(roomyTree("at", name("x"), zero())), lit(integer(2))) },
	} {
		e, in := tree(), roomyEnv()
		treeBefore, envBefore := frozenTree(e), frozenEnv(in)
		first, errno := Eval(e, in)
		again, errno2 := Eval(e, in)
		if errno != api.OK || errno2 != api.OK || len(first.Items) == 0 || !alike(first, again) {
			t.Fatalf("R8: %s: %+v, %d, then %+v, %d", what, first, errno, again, errno2)
		}
		kept := frozen(again)
		unchanged := func(why string) {
			t.Helper()
			if frozenTree(e) != treeBefore || frozenEnv(in) != envBefore || frozen(again) != kept {
				t.Errorf("R6: %s: %s", what, why)
			}
		}
		unchanged("what was handed in has changed")
		spoil(first)
		unchanged("an answer shares memory")
		Holds(e, in)
		Whole(e, in)
		unchanged("Holds or Whole has changed what was handed in")
		spoilTree(e)
		spoilEnv(in)
		if frozen(again) != kept {
			t.Errorf("R6: %s: what was handed in is kept", what)
		}
	}
}

// TestEnvironmentsShareNothing does so with With and Find.
func TestEnvironmentsShareNothing(t *testing.T) { // P8: R6 and R8
	for _, s := range []string{"x", "y", "z"} {
		in, v := roomyEnv(), roomyValue()
		before, valueBefore := frozenEnv(in), frozen(v)
		first, again := in.With(s, v), in.With(s, v)
		further := again.With("z", text("another")).With("w", v)
		found, ok := again.Find(s)
		if !ok || !alike(found, v) {
			t.Fatalf("Find(%s): %+v, %v", s, found, ok)
		}
		kept, keptFurther := frozenEnv(again), frozenEnv(further)
		unchanged := func(why string) {
			t.Helper()
			if frozenEnv(in) != before || frozen(v) != valueBefore || frozenEnv(again) != kept || frozenEnv(further) != keptFurther {
				t.Errorf("R6: With(%s): %s", s, why)
			}
		}
		unchanged("what was handed in has changed")
		spoilEnv(first)
		unchanged("two answers share memory")
		spoil(found)
		unchanged("what is found is the environment's own")
		spoilEnv(in)
		spoil(v)
		if frozenEnv(again) != kept {
			t.Errorf("R6: With(%s): what was handed in is kept", s)
		}
		spoilEnv(again)
		if frozenEnv(further) != keptFurther {
			t.Errorf("R6: With of what With(%s) answered shares memory with it", s)
		}
	}
	// One value handed in twice is two.
	v := roomyValue()
	in := Env{This: v}.With("x", v).With("y", v)
	spoil(in.This)
	spoil(in.Values[0])
	if got, ok := in.Find("y"); !ok || !alike(got, roomyValue()) {
		t.Errorf("R6: With: values share memory: %+v", got)
	}
	inner := list(integer(1))
	got, _ := Eval(this(), Env{This: list(inner, inner)})
	spoil(got.Items[0])
	if !alike(got.Items[1], inner) || !alike(inner, listOfIntegers(1)) {
		t.Errorf("R6: Eval: items share memory: %+v", got)
	}
}

// TestErrorsLeaveNothing asks whether errors change what later calls answer.
func TestErrorsLeaveNothing(t *testing.T) { // P8: R4 and R8
	in, good := byHand(), parsed(t, "sum(l) + len(keys(this))")
	for _, s := range []string{"q", "1 / 0", "l.a", "min(e)", "sum(keys(this))", "9223372036854775807 + i"} {
		for range 2 {
			if v, errno := Eval(parsed(t, s), in); errno == api.OK {
				t.Errorf("Eval(%s): %+v", s, v)
			}
			if n, errno := Whole(good, in); n != 9 || errno != api.OK {
				t.Errorf("Whole behind %s: %d, %d", s, n, errno)
			}
		}
		// Nothing is kept of an environment that was there before.
		if _, errno := Eval(good, Env{}); errno != api.ErrName {
			t.Errorf("Eval without names: %d", errno)
		}
	}
}

// deepest is a value of so many arrays, and objects, in one another.
func deepest(many int) value.Value {
	v := integer(1)
	for at := range many {
		if at%2 == 0 {
			v = list(v)
		} else {
			v = object("a", v)
		}
	}
	return v
}

// nested is an Op of so many levels, the one ahead of the next, or behind it.
func nested(many int, inner expr.Expr, around func(e expr.Expr) expr.Expr) expr.Expr {
	for range many {
		inner = around(inner)
	}
	return inner
}

func TestDeep(t *testing.T) { // P7
	const many = 1 << 16
	v := deepest(many)
	for _, e := range []expr.Expr{this(), name("x"), lit(v)} {
		got, errno := Eval(e, env(v, "x", v))
		if errno != api.OK || !value.Same(got, v) {
			t.Errorf("P10.1: Eval of what is deep: %d", errno)
		}
	}
	if b, errno := Holds(op("==", this(), lit(deepest(many))), Env{This: v}); !b || errno != api.OK {
		t.Errorf("P10.1: Holds of what is deep: %v, %d", b, errno)
	}
	into := nested(many/2, this(), func(e expr.Expr) expr.Expr { return op("at", get(e, "a"), lit(integer(0))) })
	if n, errno := Whole(into, Env{This: v}); n != 1 || errno != api.OK {
		t.Errorf("P10.1: what is deepest: %d, %d", n, errno)
	}
	one := lit(integer(1))
	for _, c := range []struct {
		e     expr.Expr
		want  int64
		errno api.Errno
	}{
		{nested(many, one, func(e expr.Expr) expr.Expr { return op("neg", e) }), 1, api.OK},
		{nested(many, one, func(e expr.Expr) expr.Expr { return op("+", e, one) }), many + 1, api.OK},
		{nested(many, one, func(e expr.Expr) expr.Expr { return op("-", one, e) }), 1, api.OK},
		{nested(many, name("q"), func(e expr.Expr) expr.Expr { return op("/", e, lit(integer(0))) }), 0, api.ErrName},
		{nested(many, name("q"), func(e expr.Expr) expr.Expr { return op("/", one, e) }), 0, api.ErrName},
		{nested(many, one, func(e expr.Expr) expr.Expr { return op("not", e) }), 0, api.ErrKind},
	} {
		if n, errno := Whole(c.e, Env{}); n != c.want || errno != c.errno {
			t.Errorf("P10.1: Whole of a deep tree: %d, %d; want %d, %d", n, errno, c.want, c.errno)
		}
	}
}

// TestDeepestTexts asks of texts that are as deep as Parse allows.
func TestDeepestTexts(t *testing.T) { // P10.1
	for s, want := range map[string]int64{
		strings.Repeat("-", api.MaxNest-1) + "1":                                          -1,
		"this" + strings.Repeat(".a", api.MaxNest-1):                                      5,
		"1" + strings.Repeat(" + 1", api.MaxNest-1):                                       api.MaxNest,
		strings.Repeat("(1 - ", api.MaxNest-1) + "1" + strings.Repeat(")", api.MaxNest-1): 0,
	} {
		v := integer(5)
		for range api.MaxNest - 1 {
			v = object("a", v)
		}
		if n, errno := Whole(parsed(t, s), Env{This: v}); n != want || errno != api.OK {
			t.Errorf("Whole(%s): %d, %d; want %d", s, n, errno, want)
		}
		checkTold(t, parsed(t, s), Env{This: v})
	}
}

// TestWide asks of what has many items, or many points.
func TestWide(t *testing.T) { // P7, P10.1 and P10.3
	const many = 1 << 17
	long := value.Value{Kind: 4, Items: make([]value.Value, many)}
	for at := range long.Items {
		long.Items[at] = integer(int64(at))
	}
	wide := value.Value{Kind: 5, Items: long.Items}
	for at := range many {
		wide.Keys = append(wide.Keys, string(rune(0x10000+at)))
	}
	in := env(long, "o s", wide, text(strings.Join(wide.Keys, "")))
	for s, want := range map[string]int64{
		"len(this)": many, "sum(this)": many * (many - 1) / 2, "min(this)": 0, "max(this)": many - 1, "count(this, 7)": 1, "this[131071]": many - 1, "len(o)": many, "len(keys(o))": many, `o."\ud800\udc07"`: 7, "len(s)": many, `len(join(keys(o), "--"))`: 3*many - 2,
	} {
		if n, errno := Whole(parsed(t, s), in); n != want || errno != api.OK {
			t.Errorf("Whole(%s): %d, %d; want %d", s, n, errno, want)
		}
	}
	got, errno := Eval(parsed(t, "keys(o)"), in)
	if errno != api.OK || !alike(got, listOfTexts(wide.Keys...)) {
		t.Errorf("keys of many: %d", errno)
	}
	// What is made of a value again and again isn't greater than it.
	for _, s := range []string{`join(keys(o), join(keys(o), ""))`, "keys(o)", "o", "this", "s", "count(this, this)"} {
		if v, errno := Eval(parsed(t, s), env(long, "o s", object("a b", long, long), text("ab"))); errno != api.OK || sizeOf(v) > 2*many+3 {
			t.Errorf("P10.3: Eval(%s): size %d, error %d", s, sizeOf(v), errno)
		}
	}
}

// TestOthersDontPanic hands what is no tree, no value and no environment to the calls.
func TestOthersDontPanic(t *testing.T) { // P7
	ops := append([]string{"lit", "this", "var", "", "x", "LEN", "or ", "=", "<>", "\xFF"}, signs...)
	odd := []value.Value{
		{Kind: -1}, {Kind: 6}, {Kind: math.MaxInt}, {Kind: math.MinInt}, {Kind: 3, Str: "\xFF"}, {Kind: 3, Str: "a\xC3"}, {Kind: 2, Str: "a", Items: []value.Value{{}}}, {Kind: 4, Keys: []string{"a"}}, {Kind: 4, Items: []value.Value{{Kind: 9}}},
		{Kind: 5, Keys: []string{"a"}}, {Kind: 5, Items: []value.Value{{}}}, {Kind: 5, Keys: []string{"b", "a"}, Items: []value.Value{{}, {}}}, {Kind: 5, Keys: []string{"", "a", "b"}, Items: []value.Value{{}}}, {Kind: 5, Keys: []string{"\xFF"}, Items: []value.Value{{}}}, listOfIntegers(1), object("a", integer(1)), boolean(true), text("a"), integer(0),
	}
	for _, sign := range ops {
		for args := range 4 {
			for at, v := range odd {
				w := odd[(at*7+args)%len(odd)]
				e := expr.Expr{Op: sign, Name: "a", Lit: w, Args: []expr.Expr{this(), name("x"), lit(w)}[:args]}
				for _, in := range []Env{{}, {This: v}, env(v, "x", w), {This: v, Names: []string{"x"}}, {This: v, Names: []string{"y", "x", "x"}, Values: odd[:2]}, {This: v, Values: odd}} {
					Holds(e, in)
					Whole(e, in)
					in.With("x", w).With("y", v).Find("x")
					// A tree that Parse can't answer has no value, but of leaves.
					if got, errno := Eval(e, in); errno == api.OK && args != argsOf(sign) && !slices.Contains(ops[:3], sign) {
						t.Errorf("Eval(%q of %d): %+v", sign, args, got)
					}
				}
			}
		}
	}
	// A name whose value is missing has none; nor is one found by it of a value without a name.
	in := Env{Names: []string{"x", "y"}, Values: []value.Value{integer(1)}}
	if v, ok := in.Find("y"); ok || !alike(v, null()) {
		t.Errorf("Find of what is missing: %+v, %v", v, ok)
	}
	if n, errno := Whole(name("y"), in.With("y", integer(2))); n != 2 || errno != api.OK {
		t.Errorf("With of what was missing: %d, %d", n, errno)
	}
	in = Env{Names: []string{"x"}, Values: []value.Value{integer(1), integer(2)}}.With("y", integer(3))
	if n, errno := Whole(name("y"), in); n != 3 || errno != api.OK {
		t.Errorf("With behind a value without a name: %d, %d", n, errno)
	}
}

func FuzzTexts(f *testing.F) {
	for at, s := range []string{"sum(this) * len(this)", "x == y", "not x or y < len(this)", "count(keys(this), x[0])", `join(this, "") + q`, "-x % 3 * sum(this)", "null", `has(this, "a") and starts(y, x)`, "this.a[0].b", "min(x) / max(y)"} {
		f.Add(s, int64(at))
	}
	f.Fuzz(func(t *testing.T, s string, seed int64) {
		e, _, errno := expr.Parse(s)
		if errno != api.OK {
			return
		}
		random := rand.New(rand.NewSource(seed))
		in := Env{This: drawnValue(random, 3)}
		for _, s := range []string{"x", "y"} {
			in = in.With(s, drawnValue(random, 2))
		}
		checkTold(t, e, in)
	})
}
