package iso

import (
	"math"
	"math/big"
	"math/rand"
	"reflect"
	"slices"
	"strconv"
	"strings"
	"testing"
	"unicode/utf8"

	"cheval/api"
	"cheval/value"
)

const (
	least = math.MinInt64
	most  = math.MaxInt64
)

// The samples are written field by field, so that they don't hang on the calls of another package.

func null() value.Value                  { return value.Value{} }
func boolean(b bool) value.Value         { return value.Value{Kind: 1, Bool: b} }
func integer(n int64) value.Value        { return value.Value{Kind: 2, Int: n} }
func text(s string) value.Value          { return value.Value{Kind: 3, Str: s} }
func array(l ...value.Value) value.Value { return value.Value{Kind: 4, Items: l} }

// record has the keys, which must be rising, and an item for each.
func record(keys string, items ...value.Value) value.Value {
	return value.Value{Kind: 5, Keys: strings.Fields(keys), Items: items}
}

func integers(l ...int64) value.Value {
	v := array()
	for _, n := range l {
		v.Items = append(v.Items, integer(n))
	}
	return v
}

func texts(l ...string) value.Value {
	v := array()
	for _, s := range l {
		v.Items = append(v.Items, text(s))
	}
	return v
}

func plain(name string) Iso { return Iso{Name: name} }
func plus(n int64) Iso      { return Iso{Name: "plus", N: n} }
func times(n int64) Iso     { return Iso{Name: "times", N: n} }
func tagged(key string) Iso { return Iso{Name: "tag", Key: key} }
func plains(names string) []Iso {
	var l []Iso
	for _, name := range strings.Fields(names) {
		l = append(l, plain(name))
	}
	return l
}

// names are those of all isos.
var names = strings.Fields("neg plus times flip rev swap box tag show chars pairs")

// isos are some of each name: the edges, and what lies between. (Nobody writes to them.)
var isos = slices.Concat(
	plains("neg flip rev swap box show chars pairs"),
	[]Iso{plus(0), plus(1), plus(-1), plus(2), plus(most), plus(least), plus(least + 1)},
	[]Iso{times(1), times(-1), times(2), times(-2), times(3), times(10), times(1 << 32), times(most), times(least)},
	[]Iso{tagged(""), tagged("a"), tagged("b"), tagged("\u20ac"), tagged("a\"\\\n\x00")},
)

// samples are values of all kinds. (Nobody writes to them.)
var samples = []value.Value{
	null(), boolean(false), boolean(true),
	integer(0), integer(1), integer(-1), integer(2), integer(-2), integer(3), integer(6), integer(-7), integer(10), integer(1 << 31), integer(1 << 32), integer(-1 << 32), integer(1 << 62), integer(-1 << 62), integer(most), integer(most - 1), integer(most - 2), integer(least), integer(least + 1), integer(least + 2), integer(most / 3 * 3), integer(most / 10 * 10),
	text(""), text("a"), text("b"), text("ab"), text("aba"), text("0"), text("-0"), text("00"), text("7"), text("-7"), text("07"), text("-07"), text("+7"), text(" 7"), text("7 "), text("7.0"), text("7e0"), text("0x7"), text("1_0"), text("-"), text("--1"), text("9223372036854775807"), text("9223372036854775808"), text("-9223372036854775808"), text("-9223372036854775809"), text("\u0667"), text("\x00"), text("a\u0301"), text("\u20aca\U0001F600"), text("\uFFFD"), text("\U0010FFFF\x7F\u0080\u07FF\u0800\uFFFF\U00010000"),
	array(), array(null()), array(array()), array(array(array())), array(record("")), integers(0), integers(1, 2), integers(2, 1), integers(1, 2, 3), integers(1, 1), array(boolean(true), text("a")), array(null(), array(null(), integer(1))), array(integers(1, 2), integers(3)),
	texts("a"), texts(""), texts("a", "b"), texts("b", "a"), texts("a", "a"), texts("ab"), texts("a", "bc"), texts("a", ""), texts("\u20ac", "\U0001F600"), texts("a", "\u0301"), texts("a\u0301"), texts("\uFFFD"), array(text("a"), null()), array(integer(1), text("a")), array(text("a"), texts("b")),
	array(array(text("a"), null())), array(array(text("a"), null()), array(text("b"), integer(1))), array(array(text("b"), null()), array(text("a"), null())), array(array(text("a"), null()), array(text("a"), null())), array(array(text(""), array()), array(text("A"), record("a", null())), array(text("\u20ac"), text("x"))), array(array(null(), text("a"))), array(array(text("a"))), array(array(text("a"), null(), null())), array(array(text("a"), null()), null()), array(array(text("a"), null()), array(integer(1), null())), array(array(array(text("a"), null()))), array(record("a", null())), array(text("a"), null()), array(array(text("\uFFFF"), null()), array(text("\U00010000"), null())), array(array(text("10"), null()), array(text("9"), null())), array(array(text("9"), null()), array(text("10"), null())),
	record(""), record("a", null()), record("b", integer(1)), record("a b", integer(1), text("x")), record("A a", array(integer(1)), record("a", boolean(true))), record("a", record("a", record("a", null()))), record("\u20ac", integers(1, 2)), {Kind: 5, Keys: []string{""}, Items: []value.Value{text("nothing")}}, {Kind: 5, Keys: []string{"", "a", "ab"}, Items: []value.Value{null(), integer(5), boolean(false)}}, {Kind: 5, Keys: []string{"a\"\\\n\x00"}, Items: []value.Value{array()}},
}

// native is a value as one of Go's own: nil, a bool, an int64, a string, a list or a map.
func native(v value.Value) any {
	switch v.Kind {
	case 1:
		return v.Bool
	case 2:
		return v.Int
	case 3:
		return v.Str
	case 4:
		l := []any{}
		for _, item := range v.Items {
			l = append(l, native(item))
		}
		return l
	case 5:
		m := map[string]any{}
		for at, key := range v.Keys {
			m[key] = native(v.Items[at])
		}
		return m
	}
	return nil
}

// exact is an integer, reckoned without an end.
func exact(n *big.Int) (any, api.Errno) {
	if !n.IsInt64() {
		return nil, api.ErrOver
	}
	return n.Int64(), api.OK
}

// toldThere is where an iso leads by the words of the chapter, with Go's own things.
func toldThere(x Iso, a any) (any, api.Errno) {
	switch x.Name {
	case "box":
		return []any{a}, api.OK
	case "tag":
		return map[string]any{x.Key: a}, api.OK
	}
	switch a := a.(type) {
	case bool:
		if x.Name == "flip" {
			return !a, api.OK
		}
	case int64:
		n, by := big.NewInt(a), big.NewInt(x.N)
		switch x.Name {
		case "neg":
			return exact(n.Neg(n))
		case "plus":
			return exact(n.Add(n, by))
		case "times":
			return exact(n.Mul(n, by))
		case "show":
			return n.String(), api.OK
		}
	case string:
		switch x.Name {
		case "rev":
			made := ""
			for _, r := range a {
				made = string(r) + made
			}
			return made, api.OK
		case "chars":
			l := []any{}
			for _, s := range strings.Split(a, "") {
				l = append(l, s)
			}
			return l, api.OK
		}
	case []any:
		if x.Name == "rev" || x.Name == "swap" && len(a) == 2 {
			l := []any{}
			for at := range a {
				l = append(l, a[len(a)-1-at])
			}
			return l, api.OK
		}
	case map[string]any:
		if x.Name == "pairs" {
			l := []any{}
			for _, key := range sorted(a) {
				l = append(l, []any{key, a[key]})
			}
			return l, api.OK
		}
	}
	return nil, api.ErrKind
}

func sorted(m map[string]any) []string {
	var l []string
	for key := range m {
		l = append(l, key)
	}
	slices.Sort(l)
	return l
}

// guess is the one thing from which an iso might lead to another one: whether it does is to be seen.
func guess(x Iso, b any) any {
	switch b := b.(type) {
	case bool:
		return !b
	case int64:
		n, by := big.NewInt(b), big.NewInt(x.N)
		switch x.Name {
		case "neg":
			n.Neg(n)
		case "plus":
			n.Sub(n, by)
		case "times":
			n.Quo(n, by)
		}
		a, _ := exact(n)
		return a
	case string:
		if x.Name == "show" {
			n, _ := strconv.ParseInt(b, 10, 64)
			return n
		}
		a, _ := toldThere(plain("rev"), b)
		return a
	case []any:
		return guessOfList(x, b)
	case map[string]any:
		return b[x.Key]
	}
	return nil
}

// guessOfList is that of a list.
func guessOfList(x Iso, b []any) any {
	switch x.Name {
	case "rev", "swap":
		a, _ := toldThere(plain("rev"), b)
		return a
	case "box":
		if len(b) > 0 {
			return b[0]
		}
	case "chars":
		made := ""
		for _, item := range b {
			s, _ := item.(string)
			made += s
		}
		return made
	case "pairs":
		made := map[string]any{}
		for _, item := range b {
			pair, _ := item.([]any)
			if len(pair) == 2 {
				key, _ := pair[0].(string)
				made[key] = pair[1]
			}
		}
		return made
	}
	return nil
}

// toldBack is the thing from which an iso leads to another one: no thing is taken that it doesn't lead there from.
func toldBack(x Iso, b any) (any, api.Errno) {
	a := guess(x, b)
	if led, e := toldThere(x, a); e != api.OK || !reflect.DeepEqual(led, b) {
		return nil, api.ErrNone
	}
	return a, api.OK
}

// toldThrough and toldReturn go iso by iso.

func toldThrough(l []Iso, a any) (any, api.Errno) {
	e := api.OK
	for at := 0; at < len(l) && e == api.OK; at++ {
		a, e = toldThere(l[at], a)
	}
	return a, e
}

func toldReturn(l []Iso, b any) (any, api.Errno) {
	e := api.OK
	for at := len(l) - 1; at >= 0 && e == api.OK; at-- {
		b, e = toldBack(l[at], b)
	}
	return b, e
}

// alike holds two values against each other field by field; an empty list is nil or empty (R5).
func alike(a, b value.Value) bool {
	if a.Kind != b.Kind || a.Bool != b.Bool || a.Int != b.Int || a.Str != b.Str {
		return false
	}
	return slices.Equal(a.Keys, b.Keys) && slices.EqualFunc(a.Items, b.Items, alike)
}

// sizeOf is a value's size, by the words of chapter 3.
func sizeOf(v value.Value) int {
	size := 1
	for _, item := range v.Items {
		size += sizeOf(item)
	}
	return size
}

// way is a call of one iso, or of many.
type way func(v value.Value) (value.Value, api.Errno)

// checkWay holds an answer against what was told, and whether it leads to what it came from.
func checkWay(t *testing.T, promise, call string, l []Iso, v value.Value, there, back way, want any, wantE api.Errno) {
	t.Helper()
	got, e := there(v)
	if e != wantE || !reflect.DeepEqual(native(got), want) || !got.Good() || e != api.OK && !alike(got, null()) {
		t.Errorf("P11.1: %s %+v of %+v: %+v, %d; want %v, %d", call, l, v, got, e, want, wantE)
		return
	}
	if e != api.OK {
		return
	}
	if again, e := back(got); e != api.OK || !alike(again, v) {
		t.Errorf("%s: %s %+v leads from %+v to %+v, but that leads to %+v, %d", promise, call, l, v, got, again, e)
	}
}

// check holds all four ways of an iso against the words, at a value.
func check(t *testing.T, x Iso, v value.Value) {
	t.Helper()
	one := []Iso{x}
	want, e := toldThere(x, native(v))
	through := func(v value.Value) (value.Value, api.Errno) { return Through(one, v) }
	back := func(v value.Value) (value.Value, api.Errno) { return Return(one, v) }
	checkWay(t, "P11.2", "There", one, v, x.There, x.Back, want, e)
	checkWay(t, "P11.2", "Through", one, v, through, back, want, e)
	want, e = toldBack(x, native(v))
	checkWay(t, "P11.2", "Back", one, v, x.Back, x.There, want, e)
	checkWay(t, "P11.2", "Return", one, v, back, through, want, e)
	if from, e := x.Back(v); e == api.OK && sizeOf(from) > sizeOf(v) {
		t.Errorf("P11.3: Back of %+v, %+v: size %d", x, v, sizeOf(from))
	}
}

// checkMany does so for some isos, one behind the other.
func checkMany(t *testing.T, l []Iso, v value.Value) {
	t.Helper()
	want, e := toldThrough(l, native(v))
	through := func(v value.Value) (value.Value, api.Errno) { return Through(l, v) }
	back := func(v value.Value) (value.Value, api.Errno) { return Return(l, v) }
	checkWay(t, "P11.2", "Through", l, v, through, back, want, e)
	want, e = toldReturn(l, native(v))
	checkWay(t, "P11.2", "Return", l, v, back, through, want, e)
	if from, e := Return(l, v); e == api.OK && sizeOf(from) > sizeOf(v) {
		t.Errorf("P11.3: Return of %+v, %+v: size %d", l, v, sizeOf(from))
	}
}

func TestExample(t *testing.T) { // P11.1
	l := []Iso{plus(2), plain("show")}
	if v, e := Through(l, integer(5)); !alike(v, text("7")) || e != api.OK {
		t.Errorf("Through: %+v, %d", v, e)
	}
	if v, e := Return(l, text("7")); !alike(v, integer(5)) || e != api.OK {
		t.Errorf("Return: %+v, %d", v, e)
	}
	if read, place, e := Prefix("plus 2 | show", 0); !slices.Equal(read, l) || place != 13 || e != api.OK {
		t.Errorf("Prefix: %+v, %d, %d", read, place, e)
	}
	if s := Print(l); s != "plus 2 | show" {
		t.Errorf("Print: %q", s)
	}
}

func TestByHand(t *testing.T) { // P11.1
	for _, c := range []struct {
		x    Iso
		v, w value.Value
	}{
		{plain("neg"), integer(5), integer(-5)}, {plain("neg"), integer(-5), integer(5)}, {plain("neg"), integer(0), integer(0)}, {plain("neg"), integer(most), integer(least + 1)}, {plain("neg"), integer(least + 1), integer(most)},
		{plus(2), integer(5), integer(7)}, {plus(-2), integer(5), integer(3)}, {plus(0), integer(least), integer(least)}, {plus(most), integer(least), integer(-1)}, {plus(least), integer(most), integer(-1)}, {plus(least), integer(0), integer(least)}, {plus(1), integer(most - 1), integer(most)}, {plus(-1), integer(least + 1), integer(least)}, {plus(most), integer(-most), integer(0)},
		{times(2), integer(5), integer(10)}, {times(-2), integer(5), integer(-10)}, {times(3), integer(0), integer(0)}, {times(1), integer(least), integer(least)}, {times(-1), integer(most), integer(least + 1)}, {times(least), integer(1), integer(least)}, {times(least), integer(0), integer(0)}, {times(2), integer(-1 << 62), integer(least)}, {times(-2), integer(1 << 62), integer(least)}, {times(most), integer(-1), integer(-most)}, {times(7), integer(most / 7), integer(most)},
		{plain("flip"), boolean(true), boolean(false)}, {plain("flip"), boolean(false), boolean(true)},
		{plain("rev"), array(), array()}, {plain("rev"), integers(1), integers(1)}, {plain("rev"), integers(1, 2), integers(2, 1)}, {plain("rev"), integers(1, 2, 3), integers(3, 2, 1)}, {plain("rev"), array(integers(1, 2), null(), text("ab")), array(text("ab"), null(), integers(1, 2))},
		{plain("rev"), text(""), text("")}, {plain("rev"), text("a"), text("a")}, {plain("rev"), text("abc"), text("cba")}, {plain("rev"), text("a\u20ac\U0001F600"), text("\U0001F600\u20aca")}, {plain("rev"), text("a\u0301"), text("\u0301a")}, {plain("rev"), text("\x00\uFFFD"), text("\uFFFD\x00")},
		{plain("swap"), integers(1, 2), integers(2, 1)}, {plain("swap"), array(integers(1, 2), null()), array(null(), integers(1, 2))}, {plain("swap"), integers(1, 1), integers(1, 1)},
		{plain("box"), null(), array(null())}, {plain("box"), array(), array(array())}, {plain("box"), integers(1, 2), array(integers(1, 2))}, {plain("box"), record("a", null()), array(record("a", null()))},
		{tagged("a"), null(), record("a", null())}, {tagged("b"), record("b", integer(1)), record("b", record("b", integer(1)))}, {tagged(""), array(), value.Value{Kind: 5, Keys: []string{""}, Items: []value.Value{array()}}}, {tagged("\u20ac"), text("x"), record("\u20ac", text("x"))},
		{plain("show"), integer(0), text("0")}, {plain("show"), integer(7), text("7")}, {plain("show"), integer(-7), text("-7")}, {plain("show"), integer(most), text("9223372036854775807")}, {plain("show"), integer(least), text("-9223372036854775808")},
		{plain("chars"), text(""), array()}, {plain("chars"), text("a"), texts("a")}, {plain("chars"), text("ab"), texts("a", "b")}, {plain("chars"), text("\u20ac\U0001F600\x00"), texts("\u20ac", "\U0001F600", "\x00")}, {plain("chars"), text("a\u0301"), texts("a", "\u0301")}, {plain("chars"), text("\uFFFD"), texts("\uFFFD")},
		{plain("pairs"), record(""), array()}, {plain("pairs"), record("a", null()), array(array(text("a"), null()))}, {plain("pairs"), record("a b", integer(1), array()), array(array(text("a"), integer(1)), array(text("b"), array()))}, {plain("pairs"), value.Value{Kind: 5, Keys: []string{"", "a"}, Items: []value.Value{record("k", null()), text("")}}, array(array(text(""), record("k", null())), array(text("a"), text("")))},
	} {
		if w, e := c.x.There(c.v); !alike(w, c.w) || e != api.OK {
			t.Errorf("There of %+v, %+v: %+v, %d; want %+v", c.x, c.v, w, e, c.w)
		}
		if v, e := c.x.Back(c.w); !alike(v, c.v) || e != api.OK {
			t.Errorf("Back of %+v, %+v: %+v, %d; want %+v", c.x, c.w, v, e, c.v)
		}
		check(t, c.x, c.v)
		check(t, c.x, c.w)
	}
}

func TestErrorsByHand(t *testing.T) { // P11.1
	for _, c := range []struct {
		x Iso
		v value.Value
		e api.Errno
	}{
		{plain("neg"), integer(least), api.ErrOver}, {plus(1), integer(most), api.ErrOver}, {plus(-1), integer(least), api.ErrOver}, {plus(most), integer(1), api.ErrOver}, {plus(least), integer(-1), api.ErrOver}, {times(2), integer(1 << 62), api.ErrOver}, {times(-1), integer(least), api.ErrOver}, {times(least), integer(-1), api.ErrOver}, {times(least), integer(2), api.ErrOver}, {times(most), integer(most), api.ErrOver}, {times(1 << 32), integer(1 << 31), api.ErrOver}, {times(1 << 32), integer(1 << 32), api.ErrOver},
		{plain("swap"), array(), api.ErrKind}, {plain("swap"), integers(1), api.ErrKind}, {plain("swap"), integers(1, 2, 3), api.ErrKind}, {plain("swap"), text("ab"), api.ErrKind}, {plain("swap"), record("a b", null(), null()), api.ErrKind},
		{plain("rev"), record("a b", null(), null()), api.ErrKind}, {plain("rev"), integer(12), api.ErrKind}, {plain("show"), text("7"), api.ErrKind}, {plain("chars"), texts("a"), api.ErrKind}, {plain("pairs"), array(array(text("a"), null())), api.ErrKind}, {plain("flip"), null(), api.ErrKind}, {plain("neg"), boolean(true), api.ErrKind}, {plus(1), text("1"), api.ErrKind}, {times(2), integers(1), api.ErrKind},
	} {
		if w, e := c.x.There(c.v); !alike(w, null()) || e != c.e {
			t.Errorf("There of %+v, %+v: %+v, %d; want %d", c.x, c.v, w, e, c.e)
		}
		check(t, c.x, c.v)
	}
	for _, c := range []struct {
		x Iso
		w value.Value
	}{
		{plain("neg"), integer(least)}, {plain("neg"), text("1")}, {plus(1), integer(least)}, {plus(-1), integer(most)}, {plus(least), integer(0)}, {plus(least), integer(most)}, {plus(most), integer(-2)}, {plus(0), null()},
		{times(2), integer(1)}, {times(2), integer(-1)}, {times(-3), integer(4)}, {times(-1), integer(least)}, {times(least), integer(1)}, {times(least), integer(-1)}, {times(most), integer(least)}, {times(2), integer(most)}, {times(1), boolean(true)},
		{plain("flip"), integer(0)}, {plain("rev"), integer(121)}, {plain("rev"), record("")}, {plain("swap"), integers(1)}, {plain("swap"), integers(1, 2, 3)}, {plain("swap"), array()}, {plain("swap"), text("ab")},
		{plain("box"), array()}, {plain("box"), integers(1, 2)}, {plain("box"), record("a", null())}, {plain("box"), null()}, {plain("box"), text("a")},
		{tagged("a"), record("")}, {tagged("a"), record("b", null())}, {tagged("a"), record("A", null())}, {tagged("a"), record("a b", null(), null())}, {tagged("b"), record("a b", null(), null())}, {tagged("a"), array(null())}, {tagged("a"), array(array(text("a"), null()))}, {tagged(""), record("a", null())}, {tagged(""), record("")}, {tagged("a"), text("a")},
		{plain("show"), integer(7)}, {plain("show"), text("")}, {plain("show"), text("-")}, {plain("show"), text("-0")}, {plain("show"), text("00")}, {plain("show"), text("07")}, {plain("show"), text("-07")}, {plain("show"), text("+7")}, {plain("show"), text(" 7")}, {plain("show"), text("7 ")}, {plain("show"), text("7.0")}, {plain("show"), text("1e1")}, {plain("show"), text("a")}, {plain("show"), text("\u0667")}, {plain("show"), text("9223372036854775808")}, {plain("show"), text("-9223372036854775809")}, {plain("show"), text("18446744073709551617")}, {plain("show"), texts("7")},
		{plain("chars"), text("a")}, {plain("chars"), texts("")}, {plain("chars"), texts("ab")}, {plain("chars"), texts("a", "bc")}, {plain("chars"), texts("a", "")}, {plain("chars"), texts("a\u0301")}, {plain("chars"), array(text("a"), integer(1))}, {plain("chars"), array(null())}, {plain("chars"), array(texts("a"))}, {plain("chars"), record("a", text("a"))},
		{plain("pairs"), record("a", null())}, {plain("pairs"), array(array(text("b"), null()), array(text("a"), null()))}, {plain("pairs"), array(array(text("a"), null()), array(text("a"), null()))}, {plain("pairs"), array(array(text("a"), null()), array(text("c"), null()), array(text("b"), null()))}, {plain("pairs"), array(array(text("a")))}, {plain("pairs"), array(array(text("a"), null(), null()))}, {plain("pairs"), array(array(null(), text("a")))}, {plain("pairs"), array(array(integer(1), null()))}, {plain("pairs"), array(array())}, {plain("pairs"), texts("ab")}, {plain("pairs"), array(record("a b", text("a"), null()))}, {plain("pairs"), array(text("a"), null())}, {plain("pairs"), text("")}, {plain("pairs"), null()},
	} {
		if v, e := c.x.Back(c.w); !alike(v, null()) || e != api.ErrNone {
			t.Errorf("Back of %+v, %+v: %+v, %d", c.x, c.w, v, e)
		}
		check(t, c.x, c.w)
	}
}

func TestEachIso(t *testing.T) { // P11.1, P11.2 and P11.3
	for _, x := range isos {
		many := map[api.Errno]int{}
		for _, v := range samples {
			check(t, x, v)
			_, e := x.There(v)
			many[e]++
			_, e = x.Back(v)
			many[e]++
		}
		if many[api.OK] == 0 || many[api.ErrNone] == 0 {
			t.Errorf("%+v: errors %v", x, many)
		}
	}
}

// TestIntegers holds what is reckoned against endless numbers.
func TestIntegers(t *testing.T) { // P11.1 and P11.2
	var edges []int64
	for _, middle := range []int64{0, least, most, 1 << 31, 1 << 32, 1 << 62, -1 << 62, most / 2, most / 3, least / 3, 3037000500, -3037000500} {
		for by := range int64(7) {
			edges = append(edges, middle+by-3)
		}
	}
	random := rand.New(rand.NewSource(11))
	for range 60 {
		edges = append(edges, int64(random.Uint64())>>random.Intn(64))
	}
	for _, n := range edges {
		check(t, plain("neg"), integer(n))
		check(t, plain("show"), integer(n))
		check(t, plain("show"), text(strconv.FormatInt(n, 10)))
		for _, by := range edges {
			check(t, plus(by), integer(n))
			if by != 0 {
				check(t, times(by), integer(n))
			}
		}
	}
}

// smallValues are all values of few items, of a few leaves.
func smallValues() []value.Value {
	leaves := []value.Value{null(), boolean(false), boolean(true), integer(0), integer(1), integer(-2), text(""), text("a"), text("b"), text("ba"), text("1"), text("-2")}
	flat := append(slices.Clone(leaves), array(), record(""))
	var pairs []value.Value
	for _, v := range leaves {
		flat = append(flat, array(v), record("a", v), record("b", v))
		for _, w := range leaves {
			flat = append(flat, array(v, w), record("a b", v, w))
			pairs = append(pairs, array(v, w))
			for _, x := range leaves[5:9] {
				flat = append(flat, array(v, w, x))
			}
		}
	}
	l := slices.Clone(flat)
	for _, v := range flat {
		l = append(l, array(v), record("a", v), array(v, text("a")), array(text("a"), v))
	}
	pairs = append(pairs, leaves[7:]...)
	for _, v := range pairs {
		for _, w := range pairs {
			l = append(l, array(v, w))
		}
	}
	return l
}

// identity is a text of a value, that no other one has.
func identity(v value.Value) string {
	s := strconv.Itoa(v.Kind) + strconv.FormatBool(v.Bool) + strconv.FormatInt(v.Int, 10) + strconv.Quote(v.Str) + "["
	for at, item := range v.Items {
		if v.Kind == value.Obj {
			s += strconv.Quote(v.Keys[at])
		}
		s += identity(item) + ","
	}
	return s + "]"
}

// TestSmallValues looks for values to which an iso leads, in all small ones.
func TestSmallValues(t *testing.T) { // P11.1, P11.2 and P11.3
	small := smallValues()
	for _, x := range slices.Concat(plains("neg flip rev swap box show chars pairs"), []Iso{plus(1), plus(-2), times(-2), times(1), tagged("a"), tagged("b")}) {
		from := map[string]value.Value{}
		for _, v := range small {
			check(t, x, v)
			w, e := x.There(v)
			if e != api.OK {
				continue
			}
			if other, twice := from[identity(w)]; twice && !alike(other, v) {
				t.Errorf("P11.2: %+v leads from %+v and %+v to %+v", x, v, other, w)
			}
			from[identity(w)] = v
		}
		if len(from) == 0 {
			t.Errorf("%+v leads nowhere", x)
		}
		for _, w := range small {
			v, known := from[identity(w)]
			if got, e := x.Back(w); known && (e != api.OK || !alike(got, v)) {
				t.Errorf("P11.1: Back of %+v, %+v: %+v, %d; want %+v", x, w, got, e, v)
			}
		}
	}
}

// drawnValue is one that numbers lead to, of at most so many levels.
func drawnValue(random *rand.Rand, deep int) value.Value {
	if deep == 0 || random.Intn(2) == 0 {
		return samples[random.Intn(len(samples))]
	}
	v := value.Value{Kind: 4 + random.Intn(2)}
	for range random.Intn(4) {
		v.Items = append(v.Items, drawnValue(random, deep-1))
	}
	if v.Kind == value.Obj {
		v.Keys = []string{"", "a", "b", "\u20ac"}[random.Intn(2):][:len(v.Items)]
	}
	return v
}

// drawnIsos are some that numbers lead to, which most often lead somewhere from a value.
func drawnIsos(random *rand.Rand, v value.Value, many int) []Iso {
	var l []Iso
	led := native(v)
	for range many {
		x := isos[random.Intn(len(isos))]
		next, e := toldThere(x, led)
		for tries := 0; e != api.OK && tries < 60; tries++ {
			x = isos[random.Intn(len(isos))]
			next, e = toldThere(x, led)
		}
		l, led = append(l, x), next
	}
	return l
}

func TestDrawnIsos(t *testing.T) { // P11.1, P11.2 and P11.3
	random := rand.New(rand.NewSource(111))
	many := map[api.Errno]int{}
	for range 40000 {
		v := drawnValue(random, 3)
		l := drawnIsos(random, v, random.Intn(7))
		if random.Intn(4) == 0 {
			l = append(l, isos[random.Intn(len(isos))])
		}
		checkMany(t, l, v)
		w, e := Through(l, v)
		many[e]++
		if e != api.OK {
			continue
		}
		// What is near to what isos lead to most often isn't led to.
		near := []value.Value{array(w), drawnValue(random, 2)}
		if len(w.Items) > 0 {
			near = append(near, w.Items[0])
			some := random.Intn(len(w.Items))
			changed := w.Copy()
			changed.Items[some] = drawnValue(random, 1)
			near = append(near, changed)
		}
		for _, w := range near {
			checkMany(t, l, w)
			_, e := Return(l, w)
			many[e]++
		}
	}
	for _, e := range []api.Errno{api.OK, api.ErrKind, api.ErrOver, api.ErrNone} {
		if many[e] < 50 {
			t.Errorf("error %d came %d times", e, many[e])
		}
	}
	if len(many) != 4 {
		t.Errorf("errors %v", many)
	}
}

func TestMany(t *testing.T) { // P11.1
	for _, v := range samples {
		for _, none := range [][]Iso{nil, {}} {
			if w, e := Through(none, v); !alike(w, v) || e != api.OK {
				t.Errorf("Through none, %+v: %+v, %d", v, w, e)
			}
			if w, e := Return(none, v); !alike(w, v) || e != api.OK {
				t.Errorf("Return none, %+v: %+v, %d", v, w, e)
			}
			checkMany(t, none, v)
		}
		for _, x := range isos {
			for _, y := range isos {
				checkMany(t, []Iso{x, y}, v)
			}
		}
	}
	// The first one leads first, and the last one back.
	for _, c := range []struct {
		l    []Iso
		v, w value.Value
	}{
		{[]Iso{plus(2), times(3)}, integer(5), integer(21)}, {[]Iso{times(3), plus(2)}, integer(5), integer(17)}, {[]Iso{tagged("a"), tagged("b")}, null(), record("b", record("a", null()))}, {plains("show rev"), integer(-12), text("21-")}, {plains("show chars rev box"), integer(12), array(texts("2", "1"))}, {[]Iso{tagged("k"), plain("pairs"), plain("box")}, integer(1), array(array(array(text("k"), integer(1))))}, {append(plains("box box rev"), tagged("")), boolean(true), value.Value{Kind: 5, Keys: []string{""}, Items: []value.Value{array(array(boolean(true)))}}}, {plains("neg neg neg"), integer(4), integer(-4)}, {plains("swap rev"), integers(1, 2), integers(1, 2)},
	} {
		if w, e := Through(c.l, c.v); !alike(w, c.w) || e != api.OK {
			t.Errorf("Through %+v, %+v: %+v, %d; want %+v", c.l, c.v, w, e, c.w)
		}
		if v, e := Return(c.l, c.w); !alike(v, c.v) || e != api.OK {
			t.Errorf("Return %+v, %+v: %+v, %d; want %+v", c.l, c.w, v, e, c.v)
		}
	}
	// The first error ends it; on the way back there is but one.
	for _, c := range []struct {
		l     []Iso
		v     value.Value
		there api.Errno
	}{
		{[]Iso{plus(1), plain("flip")}, integer(most), api.ErrOver}, {[]Iso{plain("flip"), plus(1)}, integer(most), api.ErrKind}, {plains("neg show show"), integer(least), api.ErrOver}, {plains("show neg"), integer(least), api.ErrKind}, {[]Iso{times(2), times(-1 << 62)}, integer(2), api.ErrOver}, {plains("neg flip"), boolean(true), api.ErrKind}, {plains("flip neg"), boolean(true), api.ErrKind}, {[]Iso{plus(1), plus(-1)}, integer(most), api.ErrOver}, {plains("show chars"), texts("-", "0"), api.ErrKind}, {plains("swap swap neg"), integers(1, 2), api.ErrKind},
	} {
		if w, e := Through(c.l, c.v); e != c.there || !alike(w, null()) {
			t.Errorf("Through %+v, %+v: %+v, %d; want %d", c.l, c.v, w, e, c.there)
		}
		if w, e := Return(c.l, c.v); e != api.ErrNone || !alike(w, null()) {
			t.Errorf("Return %+v, %+v: %+v, %d", c.l, c.v, w, e)
		}
	}
}

func TestGood(t *testing.T) { // P11.1
	for _, x := range isos {
		if !x.Good() {
			t.Errorf("Good of %+v: false", x)
		}
	}
	keys := []string{"", "a", "\u20ac", "\x00", "\xFF", "a\xC3", "\xED\xA0\x80", "\uFFFD"}
	for _, name := range slices.Concat(names, []string{"", "Neg", "NEG", "neg ", " neg", "ne", "negg", "nag", "plus 1", "minus", "id", "reverse", "char", "pair", "tags", "unbox", "\x00", "\xFF", "lit", "get"}) {
		for _, n := range []int64{0, 1, -1, 7, most, least} {
			for _, key := range keys {
				want := slices.Contains(names, name)
				if name != "plus" && name != "times" && n != 0 || name == "times" && n == 0 {
					want = false
				}
				if name != "tag" && key != "" || !utf8.ValidString(key) {
					want = false
				}
				x := Iso{Name: name, N: n, Key: key}
				if x.Good() != want {
					t.Errorf("Good of %+v: %v", x, !want)
				}
			}
		}
	}
}

// frozen is a value as a text, by which it is seen whether it was changed, spare room too.
func frozen(v value.Value) string {
	var b strings.Builder
	freeze(&b, v)
	return b.String()
}

func freeze(b *strings.Builder, v value.Value) {
	b.WriteString(strconv.Itoa(v.Kind) + strconv.FormatBool(v.Bool) + strconv.FormatInt(v.Int, 10) + strconv.Quote(v.Str) + "(")
	for _, key := range v.Keys[:cap(v.Keys)] {
		b.WriteString(strconv.Quote(key) + ",")
	}
	b.WriteString(")[")
	for _, item := range v.Items[:cap(v.Items)] {
		freeze(b, item)
		b.WriteString(",")
	}
	b.WriteString("]")
}

// spoil writes to all that a value has, spare room too.
func spoil(v value.Value) {
	for at := range v.Keys[:cap(v.Keys)] {
		v.Keys[:cap(v.Keys)][at] = "spoilt"
	}
	for at := range v.Items[:cap(v.Items)] {
		item := &v.Items[:cap(v.Items)][at]
		spoil(*item)
		*item = text("spoilt")
	}
}

// roomy is a list with spare room behind it.
func roomy[T any](spare T, l ...T) []T {
	l = append(make([]T, 0, len(l)+3), l...)
	l[:len(l)+1][len(l)] = spare
	return l
}

func roomyArray(l ...value.Value) value.Value {
	return value.Value{Kind: 4, Items: roomy(text("spare"), l...)}
}

func roomyRecord(keys string, l ...value.Value) value.Value {
	return value.Value{Kind: 5, Keys: roomy("spare", strings.Fields(keys)...), Items: roomy(text("spare"), l...)}
}

// roomyValue is one whose lists have spare room behind them.
func roomyValue() value.Value {
	return roomyRecord("a b", roomyArray(roomyArray(integer(1)), roomyRecord("c", null())), roomyArray(roomyArray()))
}

// TestNothingIsShared spoils each answer, and what was handed in, and looks whether anything else was changed.
func TestNothingIsShared(t *testing.T) { // P8: R6 and R8
	through := func(l ...Iso) way { return func(v value.Value) (value.Value, api.Errno) { return Through(l, v) } }
	back := func(l ...Iso) way { return func(v value.Value) (value.Value, api.Errno) { return Return(l, v) } }
	for what, c := range map[string]struct {
		do  way
		arg func() value.Value
	}{
		"rev":       {plain("rev").There, func() value.Value { return roomyArray(roomyValue(), roomyArray(), null()) }},
		"rev back":  {plain("rev").Back, func() value.Value { return roomyArray(roomyValue(), roomyArray(), null()) }},
		"swap":      {plain("swap").There, func() value.Value { return roomyArray(roomyValue(), roomyArray()) }},
		"swap back": {plain("swap").Back, func() value.Value { return roomyArray(roomyArray(), roomyValue()) }},
		"box":       {plain("box").There, roomyValue},
		"box back":  {plain("box").Back, func() value.Value { return roomyArray(roomyValue()) }},
		"tag":       {tagged("k").There, roomyValue},
		"tag back":  {tagged("k").Back, func() value.Value { return roomyRecord("k", roomyValue()) }},
		"chars":     {plain("chars").There, func() value.Value { return text("abc") }},
		"pairs":     {plain("pairs").There, roomyValue},
		"pairs back": {plain("pairs").Back, func() value.Value {
			return roomyArray(roomyArray(text("a"), roomyValue()), roomyArray(text("b"), roomyArray(null())))
		}},
		"none":      {through(), roomyValue},
		"none back": {back(), roomyValue},
		"some":      {through(plain("pairs"), plain("rev"), tagged("k"), plain("box")), roomyValue},
		"some back": {back(plain("pairs"), plain("rev"), tagged("k"), plain("box")), func() value.Value {
			return roomyArray(roomyRecord("k", roomyArray(roomyArray(text("b"), roomyValue()), roomyArray(text("a"), roomyArray(null())))))
		}},
		"twice":        {through(plain("rev"), plain("rev")), func() value.Value { return roomyArray(roomyValue(), roomyArray(), null()) }},
		"there & back": {back(plain("swap"), plain("swap")), func() value.Value { return roomyArray(roomyValue(), roomyArray(integer(1))) }},
	} {
		arg := c.arg()
		before := frozen(arg)
		first, e := c.do(arg)
		again, e2 := c.do(arg)
		if e != api.OK || e2 != api.OK || len(first.Items) == 0 || !alike(first, again) {
			t.Fatalf("R8: %s: %+v, %d, then %+v, %d", what, first, e, again, e2)
		}
		kept := frozen(again)
		if frozen(arg) != before {
			t.Errorf("R6: %s: what was handed in has changed", what)
		}
		spoil(first)
		if frozen(arg) != before || frozen(again) != kept {
			t.Errorf("R6: %s: an answer shares memory", what)
		}
		spoil(arg)
		if frozen(again) != kept {
			t.Errorf("R6: %s: what was handed in is kept", what)
		}
		// What is added to one list of an answer must not come into another one.
		for at := range again.Items {
			before := make([]string, len(again.Items))
			for other, item := range again.Items {
				before[other] = frozen(item)
			}
			spoil(again.Items[at])
			for other, item := range again.Items {
				if other != at && frozen(item) != before[other] {
					t.Errorf("R6: %s: two items of an answer share memory", what)
				}
			}
		}
	}
}

// TestSharedItems hands in values whose items are the same memory.
func TestSharedItems(t *testing.T) { // P8: R6
	inner := roomyArray(integer(1), integer(2))
	for _, c := range []struct {
		do way
		v  value.Value
	}{
		{plain("rev").There, array(inner, inner)}, {plain("swap").There, array(inner, inner)}, {plain("swap").Back, array(inner, inner)}, {tagged("k").There, array(inner, inner)}, {plain("box").Back, array(array(inner, inner))}, {func(v value.Value) (value.Value, api.Errno) { return Through(nil, v) }, record("a b", inner, inner)}, {plain("pairs").Back, array(array(text("a"), inner), array(text("b"), inner))},
	} {
		got, e := c.do(c.v)
		if e != api.OK {
			t.Fatalf("%+v: %d", c.v, e)
		}
		for len(got.Items) == 1 {
			got = got.Items[0]
		}
		spoil(got.Items[0])
		if !alike(got.Items[1], integers(1, 2)) || !alike(inner, integers(1, 2)) {
			t.Errorf("R6: items share memory: %+v", got)
		}
	}
}

// TestIsosStay asks whether lists of isos are changed or kept.
func TestIsosStay(t *testing.T) { // P8: R6 and R8
	l := roomy(tagged("spare"), plus(2), plain("show"), tagged("k"))
	before := slices.Clone(l[:cap(l)])
	for range 2 {
		if w, e := Through(l, integer(5)); !alike(w, record("k", text("7"))) || e != api.OK {
			t.Errorf("Through: %+v, %d", w, e)
		}
		if v, e := Return(l, record("k", text("7"))); !alike(v, integer(5)) || e != api.OK {
			t.Errorf("Return: %+v, %d", v, e)
		}
		if s := Print(l); s != `plus 2 | show | tag "k"` {
			t.Errorf("Print: %s", s)
		}
		if !slices.Equal(l[:cap(l)], before) {
			t.Fatalf("R6: isos have changed: %+v", l[:cap(l)])
		}
	}
	s := "plus 2 | show | box"
	first, _, _ := Prefix(s, 0)
	again, _, _ := Prefix(s, 0)
	for at := range first[:cap(first)] {
		first[:cap(first)][at] = tagged("spoilt")
	}
	if !slices.Equal(again, []Iso{plus(2), plain("show"), plain("box")}) {
		t.Errorf("R6: Prefix: two answers share memory: %+v", again)
	}
}

// TestErrorsLeaveNothing asks whether errors change what later calls answer.
func TestErrorsLeaveNothing(t *testing.T) { // P8: R4, R6 and R8
	for _, x := range isos {
		for _, at := range []int{0, 8, 30, 60, len(samples) - 1} {
			v := roomyArray(roomyValue(), samples[at], roomyArray(samples[at]))
			before := frozen(v)
			l := []Iso{plain("rev"), x, plain("rev"), plain("neg"), plain("flip")}
			for range 2 {
				if w, e := Through(l, v); e == api.OK {
					t.Errorf("Through %+v: %+v", l, w)
				}
				if w, e := Return(l, v); e == api.OK {
					t.Errorf("Return %+v: %+v", l, w)
				}
				if frozen(v) != before {
					t.Fatalf("R4: %+v: what was handed in has changed", l)
				}
				if w, e := plus(2).There(integer(5)); !alike(w, integer(7)) || e != api.OK {
					t.Errorf("R4: There behind %+v: %+v, %d", l, w, e)
				}
			}
		}
	}
}

// nested is a value of so many arrays, and objects, in one another.
func nested(many int) value.Value {
	v := integer(1)
	for at := range many {
		if at%2 == 0 {
			v = array(v)
		} else {
			v = record("a", v)
		}
	}
	return v
}

func TestDeep(t *testing.T) { // P7, P11.1 and P11.2
	v := nested(1 << 16)
	for _, c := range []struct {
		x    Iso
		v, w value.Value
	}{
		{plain("box"), v, array(v)}, {tagged("k"), v, record("k", v)}, {plain("rev"), array(v, null()), array(null(), v)}, {plain("swap"), array(null(), v), array(v, null())}, {plain("pairs"), record("a b", v, null()), array(array(text("a"), v), array(text("b"), null()))},
	} {
		if w, e := c.x.There(c.v); e != api.OK || !alike(w, c.w) {
			t.Errorf("There of %+v, of what is deep: %d", c.x, e)
		}
		if v, e := c.x.Back(c.w); e != api.OK || !alike(v, c.v) {
			t.Errorf("Back of %+v, of what is deep: %d", c.x, e)
		}
		for _, x := range isos {
			x.There(c.w)
			x.Back(c.w)
		}
	}
	// What stands innermost is reached, and each level is what it was.
	var l []Iso
	for at := range 1 << 16 {
		l = append(l, []Iso{plain("box"), tagged("a")}[at%2])
	}
	if w, e := Through(l, integer(1)); e != api.OK || !alike(w, v) {
		t.Errorf("Through many: %d", e)
	}
	if w, e := Return(l, v); e != api.OK || !alike(w, integer(1)) {
		t.Errorf("Return of many: %+v, %d", w, e)
	}
}

// TestDeeper has isos lead deeper than what may be handed in.
func TestDeeper(t *testing.T) { // P7 and P11.1
	many := 1 << 21
	if testing.Short() {
		many = 1 << 18
	}
	l := slices.Repeat([]Iso{plain("box"), tagged("a")}, many/2)
	w, e := Through(l, boolean(true))
	if e != api.OK {
		t.Fatalf("Through many: %d", e)
	}
	for at := range len(l) {
		if w.Kind != value.Obj-at%2 || len(w.Items) != 1 {
			t.Fatalf("Through many: level %d: kind %d, %d items", at, w.Kind, len(w.Items))
		}
		w = w.Items[0]
	}
	if !alike(w, boolean(true)) {
		t.Errorf("Through many: innermost %+v", w)
	}
}

// TestWide asks of what has many items, or many points.
func TestWide(t *testing.T) { // P7, P11.1 and P11.2
	const many = 1 << 17
	var points strings.Builder
	long, wide, singles, pairs, back := array(), record(""), array(), array(), array()
	for at := range many {
		s := string(rune(0x10000 + at))
		points.WriteString(s)
		singles.Items = append(singles.Items, text(s))
		long.Items = append(long.Items, integer(int64(at)))
		back.Items = append(back.Items, integer(int64(many-1-at)))
		wide.Keys, wide.Items = append(wide.Keys, s), append(wide.Items, integer(int64(at)))
		pairs.Items = append(pairs.Items, array(text(s), integer(int64(at))))
	}
	for _, c := range []struct {
		x    Iso
		v, w value.Value
	}{{plain("chars"), text(points.String()), singles}, {plain("pairs"), wide, pairs}, {plain("rev"), long, back}, {plain("box"), long, array(long)}, {tagged(points.String()), wide, value.Value{Kind: 5, Keys: []string{points.String()}, Items: []value.Value{wide}}}} {
		if w, e := c.x.There(c.v); e != api.OK || !alike(w, c.w) {
			t.Errorf("There of %s, of what is wide: %d", c.x.Name, e)
		}
		if v, e := c.x.Back(c.w); e != api.OK || !alike(v, c.v) {
			t.Errorf("Back of %s, of what is wide: %d", c.x.Name, e)
		}
	}
	turned, e := plain("rev").There(text(points.String()))
	if again, _ := plain("rev").There(turned); e != api.OK || []rune(turned.Str)[0] != 0x10000+many-1 || again.Str != points.String() {
		t.Errorf("rev of many points: %d", e)
	}
	// The last one alone may be wrong.
	singles.Items[many-1] = text("ab")
	pairs.Items[many-1] = array(text("\U00010000"), null())
	for _, c := range []struct {
		name string
		w    value.Value
	}{{"chars", singles}, {"pairs", pairs}} {
		if v, e := plain(c.name).Back(c.w); e != api.ErrNone || !alike(v, null()) {
			t.Errorf("Back of %s, of what is wide and wrong: %d", c.name, e)
		}
	}
	// Many isos, at a great value, don't copy it as often.
	l := slices.Repeat([]Iso{plain("box"), tagged("k"), tagged("l"), plain("box")}, 1000)
	w, e := Through(l, long)
	if v, e2 := Return(l, w); e != api.OK || e2 != api.OK || !alike(v, long) {
		t.Errorf("many isos of what is wide: %d, %d", e, e2)
	}
}

// TestOthersDontPanic hands what is no iso, and no value, to the calls.
func TestOthersDontPanic(t *testing.T) { // P7
	odd := []value.Value{
		{Kind: -1}, {Kind: 6}, {Kind: math.MaxInt}, {Kind: math.MinInt}, {Kind: 3, Str: "\xFF"}, {Kind: 3, Str: "a\xC3"}, {Kind: 2, Str: "a", Items: []value.Value{{}}}, {Kind: 4, Keys: []string{"a"}}, {Kind: 4, Items: []value.Value{{Kind: 9}}}, {Kind: 4, Items: []value.Value{{Kind: 3, Str: "\xFF"}}},
		{Kind: 4, Items: []value.Value{{Kind: 4, Items: []value.Value{{Kind: 3, Str: "\xFF"}, {}}}}}, {Kind: 4, Items: []value.Value{{Kind: 4}, {}}}, {Kind: 5, Keys: []string{"a"}}, {Kind: 5, Items: []value.Value{{}}}, {Kind: 5, Keys: []string{"b", "a"}, Items: []value.Value{{}, {}}}, {Kind: 5, Keys: []string{"", "a", "b"}, Items: []value.Value{{}}}, {Kind: 5, Keys: []string{"a"}, Items: []value.Value{{}, {}}}, {Kind: 5, Keys: []string{"\xFF"}, Items: []value.Value{{}}},
	}
	for _, name := range slices.Concat(names, []string{"", "x", "Neg", "\xFF", "unknown"}) {
		for _, x := range []Iso{{Name: name}, {Name: name, N: 7}, {Name: name, N: least, Key: "\xFF"}, {Name: name, Key: "a"}} {
			for _, v := range slices.Concat(odd, samples) {
				w, e := x.There(v)
				if !slices.Contains(names, name) && (e != api.ErrKind || !alike(w, null())) {
					t.Errorf("There of %+v: %+v, %d", x, w, e)
				}
				w, e = x.Back(v)
				if !slices.Contains(names, name) && (e != api.ErrNone || !alike(w, null())) {
					t.Errorf("Back of %+v: %+v, %d", x, w, e)
				}
				Through([]Iso{x, x, plain("pairs"), x}, v)
				Return([]Iso{x, plain("chars"), x}, v)
			}
			Prefix(Print([]Iso{x, x}), 0)
		}
	}
	// None leads to it from what times 0 might lead from.
	if v, e := times(0).Back(integer(0)); e != api.ErrNone || !alike(v, null()) {
		t.Errorf("Back of times 0: %+v, %d", v, e)
	}
}

func FuzzValues(f *testing.F) {
	for seed := range int64(20) {
		f.Add(seed, seed*17, "a\u20ac")
	}
	f.Fuzz(func(t *testing.T, seed, n int64, s string) {
		random := rand.New(rand.NewSource(seed))
		v := drawnValue(random, 3)
		if random.Intn(2) == 0 {
			v = integer(n)
		}
		l := drawnIsos(random, v, random.Intn(8))
		for _, x := range []Iso{plus(n), times(n), tagged(s)} {
			if x.Good() && random.Intn(2) == 0 {
				l = slices.Insert(l, random.Intn(len(l)+1), x)
			}
		}
		checkMany(t, l, v)
		if w, e := Through(l, v); e == api.OK {
			checkMany(t, l, w)
		}
		checkPrinted(t, l)
		if utf8.ValidString(s) {
			for _, name := range []string{"rev", "show", "chars"} {
				check(t, plain(name), text(s))
			}
		}
	})
}
