package value

import (
	"math"
	"math/rand"
	"reflect"
	"slices"
	"strconv"
	"strings"
	"testing"

	"cheval/api"
)

const (
	least = math.MinInt64
	most  = math.MaxInt64
)

// The samples are written field by field, so that they don't hang on the calls that are tested.

func truth(b bool) Value        { return Value{Kind: 1, Bool: b} }
func number(n int64) Value      { return Value{Kind: 2, Int: n} }
func text(s string) Value       { return Value{Kind: 3, Str: s} }
func array(l ...Value) Value    { return Value{Kind: 4, Items: l} }
func keys(l ...string) []string { return l }

// object has the keys, which must be rising, and an item for each.
func object(keys []string, items ...Value) Value {
	return Value{Kind: 5, Keys: keys, Items: items}
}

// chain are values, each ahead of the next by the chapter's words.
func chain() []Value {
	null := Value{}
	return []Value{
		null,
		truth(false), truth(true),
		number(least), number(least + 1), number(-1 << 32), number(-2), number(-1), number(0), number(1), number(2), number(10), number(1 << 32), number(most - 1), number(most),
		text(""), text("\x00"), text("\x00\x00"), text(" "), text("10"), text("9"), text("A"), text("Z"), text("a"), text("a\x00"), text("a\x00b"), text("aa"), text("ab"), text("b"), text("\x7F"), text("\u0080"), text("\u00e9"), text("\u07FF"), text("\u20ac"), text("\uD7FF"), text("\uE000"), text("\uFFFF"), text("\U00010000"), text("\U0001F600"), text("\U0010FFFF"),
		// The first items that differ decide, then how many there are.
		array(), array(null), array(null, null), array(null, null, null), array(null, truth(false)), array(null, array(array())), array(truth(false)), array(truth(true), null),
		array(number(-1), number(7)), array(number(0)), array(number(0), number(0)), array(number(0), number(1)), array(number(1)), array(number(1), number(5)), array(number(2)), array(number(2), number(-1)), array(number(10)),
		array(text("")), array(text("a")), array(text("a"), text("b")), array(text("ab")),
		array(array()), array(array(), null), array(array(), array()), array(array(null)), array(array(null), number(3)), array(array(array())), array(object(nil)), array(object(keys("a"), null)),
		// First key, first item, second key, and so on; then how many there are.
		object(nil), object(keys(""), null), object(keys("", "a"), null, null), object(keys(""), truth(false)),
		object(keys("a"), null), object(keys("a", "b"), null, array()), object(keys("a", "c"), null, null),
		object(keys("a"), number(1)), object(keys("a", "b"), number(1), number(9)), object(keys("a", "b", "c"), number(1), number(9), null), object(keys("a", "b"), number(1), text("")), object(keys("a", "c"), number(1), null), object(keys("a", "z"), number(1), null),
		object(keys("a"), number(2)), object(keys("a", "b"), number(2), null), object(keys("a"), number(9)), object(keys("a"), array()), object(keys("a"), object(keys("a"), null)), object(keys("a\x00"), null), object(keys("aa"), null), object(keys("b"), null), object(keys("b", "c"), null, null), object(keys("\uFFFF"), null), object(keys("\U00010000"), null),
	}
}

// small are all values of some leaves, of arrays of up to two of them, and of objects of up to two keys; none twice.
func small() []Value {
	leaves := []Value{{}, truth(false), truth(true), number(-1), number(0), number(most), text(""), text("a"), array(), object(nil)}
	all := slices.Clone(leaves)
	for _, a := range leaves {
		all = append(all, array(a), object(keys(""), a), object(keys("a"), a), object(keys("b"), a))
		for _, b := range leaves {
			all = append(all, array(a, b), object(keys("", "a"), a, b), object(keys("", "b"), a, b), object(keys("a", "b"), a, b))
		}
	}
	return all
}

// drawn is a value that numbers lead to, of at most so many levels.
func drawn(next func(n int) int, deep int) Value {
	kinds := 6
	if deep == 0 {
		kinds = 4
	}
	words := []string{"", "a", "b", "ab", "\x00", "\u00e9", "\uFFFF", "\U0001F600"}
	switch kind := next(kinds); kind {
	case Bool:
		return truth(next(2) == 1)
	case Int:
		return number([]int64{0, 1, -1, least, most}[next(5)])
	case Str:
		return text(words[next(len(words))])
	case Arr, Obj:
		v := Value{Kind: kind}
		for range next(4) {
			v.Items = append(v.Items, drawn(next, deep-1))
		}
		if kind == Obj {
			slices.Sort(words)
			v.Keys = words[next(3):][:len(v.Items)]
		}
		return v
	}
	return Value{}
}

// some are values that a rule of this test leads to.
func some(many int) []Value {
	random := rand.New(rand.NewSource(3))
	var l []Value
	for range many {
		l = append(l, drawn(random.Intn, 4))
	}
	return l
}

// alike holds two values against each other field by field; an empty list is nil or empty (R5).
func alike(a, b Value) bool {
	if a.Kind != b.Kind || a.Bool != b.Bool || a.Int != b.Int || a.Str != b.Str {
		return false
	}
	return slices.Equal(a.Keys, b.Keys) && slices.EqualFunc(a.Items, b.Items, alike)
}

// frozen is a value as a text, by which it is seen whether it was changed, spare room too.
func frozen(v Value) string {
	var b strings.Builder
	freeze(&b, v)
	return b.String()
}

func freeze(b *strings.Builder, v Value) {
	b.WriteString(string(rune('0' + v.Kind)))
	if v.Bool {
		b.WriteString("t")
	}
	b.WriteString(strconv.FormatInt(v.Int, 10) + strconv.Quote(v.Str) + "(")
	for _, key := range v.Keys[:cap(v.Keys)] {
		b.WriteString(strconv.Quote(key) + ",")
	}
	b.WriteString(")[")
	for _, item := range v.Items[:cap(v.Items)] {
		freeze(b, item)
		b.WriteString(",")
	}
	b.WriteString("]")
}

// spoil writes to all that a value has, spare room too.
func spoil(v Value) {
	for at := range v.Keys[:cap(v.Keys)] {
		v.Keys[:cap(v.Keys)][at] = "spoilt"
	}
	for at := range v.Items[:cap(v.Items)] {
		item := &v.Items[:cap(v.Items)][at]
		spoil(*item)
		*item = text("spoilt")
	}
}

// deepest is a value of so many arrays, and objects, in one another.
func deepest(many int, leaf Value) Value {
	v := leaf
	for at := range many {
		if at%2 == 0 {
			v = Value{Kind: Arr, Items: []Value{v}}
		} else {
			v = Value{Kind: Obj, Items: []Value{v}, Keys: []string{"k"}}
		}
	}
	return v
}

func TestKinds(t *testing.T) { // P3.1
	for want, kind := range []int{Null, Bool, Int, Str, Arr, Obj} {
		if kind != want {
			t.Errorf("P3.1: kind %d is numbered %d", want, kind)
		}
	}
}

func TestGoodOfValues(t *testing.T) { // P3.1
	for _, l := range [][]Value{chain(), small(), some(2000)} {
		for _, v := range l {
			if !v.Good() {
				t.Fatalf("P3.1: %+v is a value", v)
			}
		}
	}
	for kind := Null; kind <= Obj; kind++ {
		if v := (Value{Kind: kind, Items: []Value{}, Keys: []string{}}); !v.Good() {
			t.Errorf("R5: %+v is a value", v)
		}
	}
}

// bad are no values, each for one reason.
func bad() []Value {
	one, null := []Value{{}}, Value{}
	l := []Value{
		{Kind: -1}, {Kind: 6}, {Kind: 7}, {Kind: least}, {Kind: most}, {Kind: 1<<32 + 1}, {Kind: 256}, {Kind: -1 << 32},
		// bytes that are no text
		text("\x80"), text("a\xFF"), text("\xC0\x80"), text("\xED\xA0\x80"), text("\xF4\x90\x80\x80"), text("\xE2\x82"),
		// keys that are none, that don't rise, that stand twice
		object(keys("\xFF"), null), object(keys("a", "b\xC3"), null, null), object(keys("a", "\xED\xB0\x80"), null, null),
		object(keys("b", "a"), null, null), object(keys("a", "a"), null, null), object(keys("", ""), null, null), object(keys("a", "b", "b"), null, null, null), object(keys("a", "c", "b"), null, null, null), object(keys("b", "c", "a"), null, null, null), object(keys("a", "Z"), null, null), object(keys("\U00010000", "\uFFFF"), null, null),
		// not as many keys as items
		object(keys("a")), object(nil, null), object(keys("a"), null, null), object(keys("a", "b"), null), object(keys("a", "b", "c"), null, null),
	}
	// A field that its kind doesn't use.
	for kind := Null; kind <= Obj; kind++ {
		if kind != Bool {
			l = append(l, Value{Kind: kind, Bool: true})
		}
		if kind != Int {
			l = append(l, Value{Kind: kind, Int: 1}, Value{Kind: kind, Int: least})
		}
		if kind != Str {
			l = append(l, Value{Kind: kind, Str: "a"}, Value{Kind: kind, Str: "\xFF"})
		}
		if kind < Arr {
			l = append(l, Value{Kind: kind, Items: one})
		}
		if kind < Obj {
			l = append(l, Value{Kind: kind, Keys: keys("a")}, Value{Kind: kind, Keys: keys("a"), Items: one})
		}
	}
	return l
}

func TestGoodOfOthers(t *testing.T) { // P3.1
	for _, v := range bad() {
		for _, w := range []Value{
			v, array(v), array(v, Value{}), array(Value{}, v), array(number(1), v, number(2)), object(keys("a"), v), object(keys("a", "b"), Value{}, v), object(keys("a", "b"), v, Value{}),
			array(array(array(v))), object(keys("a"), array(object(keys("b"), v))), deepest(100, v), array(array(), array(array(), v)),
		} {
			if w.Good() {
				t.Errorf("P3.1: %+v is no value", w)
			}
		}
	}
}

func TestMakers(t *testing.T) { // P3.1
	same := func(v, want Value) {
		t.Helper()
		if !alike(v, want) || !v.Good() {
			t.Errorf("P3.1: %+v, want %+v", v, want)
		}
	}
	same(Truth(false), Value{Kind: 1})
	same(Truth(true), Value{Kind: 1, Bool: true})
	for _, n := range []int64{least, -1, 0, 1, 1 << 32, most} {
		same(Number(n), Value{Kind: 2, Int: n})
	}
	for _, s := range []string{"", "a", "\x00", "a\u00e9\u20ac\U0001F600", "\uFFFD", strings.Repeat("ab", 1<<16)} {
		same(Text(s), Value{Kind: 3, Str: s})
	}
	same(List(), Value{Kind: 4})
	same(List([]Value{}...), Value{Kind: 4})
	same(List(Value{}), Value{Kind: 4, Items: []Value{{}}})
	same(List(number(2), text("a"), number(1), number(2)), Value{Kind: 4, Items: []Value{number(2), text("a"), number(1), number(2)}})
	same(List(chain()...), Value{Kind: 4, Items: chain()})
	same(List(List(List())), Value{Kind: 4, Items: []Value{{Kind: 4, Items: []Value{{Kind: 4}}}}})
}

func TestObject(t *testing.T) { // P3.1
	null, one, two := Value{}, number(1), number(2)
	for _, x := range []struct {
		keys  []string
		items []Value
		want  Value
	}{
		{keys("b", "a"), []Value{one, two}, object(keys("a", "b"), two, one)}, // the document's example
		{nil, nil, object(nil)}, {[]string{}, nil, object(nil)}, {nil, []Value{}, object(nil)},
		{keys(""), []Value{one}, object(keys(""), one)},
		{keys("a", "b"), []Value{one, one}, object(keys("a", "b"), one, one)},
		{keys("b", "", "a"), []Value{null, one, two}, object(keys("", "a", "b"), one, two, null)},
		{keys("c", "a", "b"), []Value{one, array(two), null}, object(keys("a", "b", "c"), array(two), null, one)},
		{keys("aa", "a\x00", "a", "Z"), []Value{null, one, two, text("x")}, object(keys("Z", "a", "a\x00", "aa"), text("x"), two, one, null)},
		{keys("\U00010000", "\uFFFF", "\u00e9"), []Value{null, one, two}, object(keys("\u00e9", "\uFFFF", "\U00010000"), two, one, null)},
		{keys("e\u0301", "\u00e9"), []Value{one, two}, object(keys("e\u0301", "\u00e9"), one, two)},
	} {
		v, e := Object(x.keys, x.items)
		if e != api.OK || !alike(v, x.want) || !v.Good() {
			t.Errorf("P3.1: Object(%q, %+v): %+v, error %d", x.keys, x.items, v, e)
		}
	}
}

// TestObjectInAnyOrder puts members in by every order of six, and by some of many.
func TestObjectInAnyOrder(t *testing.T) { // P3.1
	few := keys("", "A", "a", "aa", "b", "\u00e9")
	var items []Value
	for at := range few {
		items = append(items, number(int64(at)))
	}
	want := object(few, items...)
	var put func(ks []string, vs []Value)
	put = func(ks []string, vs []Value) {
		if len(ks) == len(few) {
			if v, e := Object(ks, vs); e != api.OK || !alike(v, want) {
				t.Fatalf("P3.1: Object(%q, %+v): %+v, error %d", ks, vs, v, e)
			}
			return
		}
		for at, key := range few {
			if !slices.Contains(ks, key) {
				put(append(slices.Clone(ks), key), append(slices.Clone(vs), items[at]))
			}
		}
	}
	put(nil, nil)

	random := rand.New(rand.NewSource(1))
	places := random.Perm(3000)
	var ks []string
	var vs []Value
	for _, at := range places {
		ks = append(ks, string(rune(0x100+at)))
		vs = append(vs, number(int64(at)))
	}
	v, e := Object(ks, vs)
	if e != api.OK || len(v.Items) != 3000 || !v.Good() {
		t.Fatalf("P3.1: Object of 3000 keys: %d items, error %d", len(v.Items), e)
	}
	for at, item := range v.Items {
		if item.Int != int64(at) || v.Keys[at] != string(rune(0x100+at)) {
			t.Fatalf("P3.1: Object of 3000 keys: at %d stand %q and %d", at, v.Keys[at], item.Int)
		}
	}
}

func TestObjectOfOthers(t *testing.T) { // P3.1, R2 and R3
	null := Value{}
	for _, x := range []struct {
		keys  []string
		items []Value
		want  api.Errno
	}{
		{keys("a"), nil, api.ErrForm}, {nil, []Value{null}, api.ErrForm}, {keys("a", "b"), []Value{null}, api.ErrForm}, {keys("a"), []Value{null, null}, api.ErrForm},
		{keys("\xFF"), nil, api.ErrForm}, {keys("a", "a"), []Value{null}, api.ErrForm}, {keys("\xFF", "\xFF"), []Value{null, null, null}, api.ErrForm},
		{keys("\xFF"), []Value{null}, api.ErrUTF}, {keys("a", "b", "\xC3"), []Value{null, null, null}, api.ErrUTF}, {keys("\xED\xA0\x80", "a"), []Value{null, null}, api.ErrUTF},
		{keys("\xFF", "\xFF"), []Value{null, null}, api.ErrUTF}, {keys("a", "a", "\xFF"), []Value{null, null, null}, api.ErrUTF}, {keys("\xFF", "a", "a"), []Value{null, null, null}, api.ErrUTF},
		{keys("a", "a"), []Value{null, null}, api.ErrTwice}, {keys("", ""), []Value{null, number(1)}, api.ErrTwice}, {keys("a", "b", "a"), []Value{null, null, null}, api.ErrTwice}, {keys("b", "c", "a", "c"), []Value{null, null, null, null}, api.ErrTwice}, {keys("b", "a", "a"), []Value{null, null, null}, api.ErrTwice}, {keys("a", "a", "b"), []Value{null, null, null}, api.ErrTwice},
	} {
		v, e := Object(x.keys, x.items)
		if e != x.want || !reflect.DeepEqual(v, Value{}) {
			t.Errorf("P3.1: Object(%q) of %d items: %+v, error %d, want error %d", x.keys, len(x.items), v, e, x.want)
		}
	}
}

// checkOrder asks for the order of two values, both ways.
func checkOrder(t *testing.T, a, b Value, want int) {
	t.Helper()
	if o, back := Order(a, b), Order(b, a); o != want || back != -want {
		t.Fatalf("P3.1: Order(%+v, %+v): %d, and %d the other way, want %d", a, b, o, back, want)
	}
	if Same(a, b) != (want == 0) || Same(b, a) != (want == 0) {
		t.Fatalf("P3.1: Same(%+v, %+v): %t, %t", a, b, Same(a, b), Same(b, a))
	}
}

func TestOrderByHand(t *testing.T) { // P3.1 and P3.2
	l, again := chain(), chain()
	for i, a := range l {
		for j, b := range again {
			switch {
			case i < j:
				checkOrder(t, a, b, -1)
			case i == j:
				checkOrder(t, a, b, 0)
			default:
				checkOrder(t, a, b, 1)
			}
		}
	}
}

// TestOrderIsWhole sorts values and asks for the order of each two: so what is ahead of what is ahead is ahead.
func TestOrderIsWhole(t *testing.T) { // P3.2
	deep := chain()
	for _, v := range chain() {
		deep = append(deep, array(number(5), v), array(v, number(5)), object(keys("k"), v), object(keys("k", "l"), v, Value{}), array(array(v)))
	}
	for _, l := range [][]Value{small(), some(400), deep} {
		slices.SortFunc(l, Order)
		for i, a := range l {
			for j := i; j < len(l); j++ {
				want := -1
				if alike(a, l[j]) {
					want = 0
				}
				checkOrder(t, a, l[j], want)
			}
		}
	}
}

func TestOrderOfEmptyLists(t *testing.T) { // R5
	for _, kind := range []int{Null, Bool, Int, Str, Arr, Obj} {
		checkOrder(t, Value{Kind: kind}, Value{Kind: kind, Items: []Value{}, Keys: []string{}}, 0)
	}
}

func TestSizeAndDepth(t *testing.T) { // P3.1
	null := Value{}
	for _, x := range []struct {
		v           Value
		size, depth int
	}{
		{null, 1, 0}, {truth(true), 1, 0}, {number(-7), 1, 0}, {text("[[1]]"), 1, 0}, {array(), 1, 1}, {object(nil), 1, 1},
		{array(null), 2, 1}, {array(null, null, null), 4, 1}, {object(keys("a"), null), 2, 1}, {object(keys("a", "b"), null, text("b")), 3, 1},
		{array(array()), 2, 2}, {array(array(), null), 3, 2}, {array(null, array()), 3, 2}, {array(array(null), array(array(null)), null), 7, 3}, {array(array(array()), array()), 4, 3}, {array(object(keys("a"), array(null, null))), 5, 3},
		{object(keys("a"), object(keys("a"), object(nil))), 3, 3}, {object(keys("a", "b"), array(array(array())), null), 5, 4}, {object(keys("a", "b"), null, array(array(array()))), 5, 4},
		{deepest(64, null), 65, 64}, {deepest(65, array()), 66, 66}, {array(slices.Repeat([]Value{array(null)}, 1000)...), 2001, 2},
	} {
		if size, depth := x.v.Size(), x.v.Depth(); size != x.size || depth != x.depth {
			t.Errorf("P3.1: %+v: size %d, depth %d, want %d, %d", x.v, size, depth, x.size, x.depth)
		}
	}
}

func TestItem(t *testing.T) { // P3.1
	v := object(keys("", "a", "aa", "b", "\u00e9", "\U0001F600"), number(0), number(1), array(number(2)), object(keys("a"), text("in")), Value{}, truth(false))
	for at, key := range v.Keys {
		if item, ok := v.Item(key); !ok || !alike(item, v.Items[at]) {
			t.Errorf("P3.1: the item of %q: %+v, %t", key, item, ok)
		}
	}
	for _, key := range []string{"A", "aaa", "a\x00", "c", "\x00", " ", "\u00e8", "\U0001F601", "\xFF", "\xC3", "0", "1"} {
		if item, ok := v.Item(key); ok || !reflect.DeepEqual(item, Value{}) {
			t.Errorf("P3.1: the item of %q: %+v, %t", key, item, ok)
		}
	}
	if item, ok := object(keys("a"), object(keys("b"), number(1))).Item("b"); ok || !reflect.DeepEqual(item, Value{}) {
		t.Errorf("P3.1: an item's item: %+v, %t", item, ok)
	}
	for _, w := range []Value{{}, truth(true), number(1), text("a"), array(), array(number(1)), object(nil)} {
		for _, key := range []string{"", "0", "a"} {
			if item, ok := w.Item(key); ok || !reflect.DeepEqual(item, Value{}) {
				t.Errorf("P3.1: the item of %q of %+v: %+v, %t", key, w, item, ok)
			}
		}
	}
}

func TestItemOfMany(t *testing.T) { // P3.1
	v := Value{Kind: Obj}
	for n := range 1000 {
		v.Keys = append(v.Keys, string(rune(0x100+2*n)))
		v.Items = append(v.Items, number(int64(n)))
	}
	for n := range 1000 {
		if item, ok := v.Item(string(rune(0x100 + 2*n))); !ok || !alike(item, number(int64(n))) {
			t.Fatalf("P3.1: item %d: %+v, %t", n, item, ok)
		}
		if item, ok := v.Item(string(rune(0x101 + 2*n))); ok || !reflect.DeepEqual(item, Value{}) {
			t.Fatalf("P3.1: no item behind %d: %+v, %t", n, item, ok)
		}
	}
}

func TestCopy(t *testing.T) { // P3.1
	for _, l := range [][]Value{chain(), small(), some(500)} {
		for _, v := range l {
			if w := v.Copy(); !alike(v, w) || !Same(v, w) || Order(v, w) != 0 {
				t.Fatalf("P3.1: the copy of %+v is %+v", v, w)
			}
		}
	}
}

// roomy is a value whose lists have spare room behind them.
func roomy() Value {
	items := make([]Value, 2, 5)
	items[0], items[1], items[:3][2] = array(number(1), array(text("deep"))), object(keys("x", "y"), array(number(2)), truth(true)), text("spare")
	names := make([]string, 2, 5)
	names[0], names[1], names[:3][2] = "a", "b", "spare"
	return Value{Kind: Obj, Items: items, Keys: names}
}

// TestNothingIsShared spoils each answer, and what was handed in, and looks whether anything else was changed.
func TestNothingIsShared(t *testing.T) { // P3.1, and P8: R6 and R8
	for name, call := range map[string]func(v Value) Value{
		"Copy":             func(v Value) Value { return v.Copy() },
		"List":             func(v Value) Value { return List(v.Items...) },
		"List of one":      func(v Value) Value { return List(v) },
		"Object":           func(v Value) Value { w, _ := Object(v.Keys, v.Items); return w },
		"Object of others": func(v Value) Value { w, _ := Object([]string{"z", "c"}, v.Items); return w },
		"first Item":       func(v Value) Value { w, _ := v.Item("a"); return w },
		"last Item":        func(v Value) Value { w, _ := v.Item("b"); return w },
	} {
		v := roomy()
		before := frozen(v)
		a, b := call(v), call(v)
		if frozen(v) != before {
			t.Errorf("R6: %s has changed its argument", name)
		}
		if len(a.Items) == 0 || !alike(a, b) {
			t.Errorf("R8: %s answers %+v, then %+v", name, a, b)
		}
		kept := frozen(b)
		spoil(a)
		if frozen(v) != before {
			t.Errorf("R6: %s answers memory of its argument", name)
		}
		if frozen(b) != kept {
			t.Errorf("R6: two answers of %s share memory", name)
		}
		spoil(v)
		if frozen(b) != kept {
			t.Errorf("R6: %s keeps its argument", name)
		}
	}
}

// TestOneArgumentTwice asks whether an answer's lists share none with each other.
func TestOneArgumentTwice(t *testing.T) { // P8: R6
	inner := array(number(1))
	o, _ := Object([]string{"b", "a"}, []Value{inner, inner})
	c := array(inner, inner).Copy()
	for _, v := range []Value{List(inner, inner), o, c} {
		v.Items[0].Items[0] = text("spoilt")
		if !alike(v.Items[1], array(number(1))) || !alike(inner, array(number(1))) {
			t.Errorf("R6: %+v: items share memory", v)
		}
	}
}

func TestAskingChangesNothing(t *testing.T) { // P8: R6
	v, w := roomy(), roomy()
	before := frozen(v)
	for range 2 {
		if !v.Good() || Order(v, w) != 0 || !Same(v, w) || v.Size() != 9 || v.Depth() != 3 {
			t.Errorf("R8: %t %d %t %d %d", v.Good(), Order(v, w), Same(v, w), v.Size(), v.Depth())
		}
	}
	if _, e := Object(keys("b", "a"), v.Items[:1]); e != api.ErrForm {
		t.Errorf("P3.1: error %d", e)
	}
	if _, e := Object(keys("b", "b"), v.Items); e != api.ErrTwice {
		t.Errorf("P3.1: error %d", e)
	}
	if frozen(v) != before || frozen(w) != before {
		t.Error("R6: values that were asked have changed")
	}
	falling := keys("c", "a", "b")
	if _, e := Object(falling, []Value{{}, {}, {}}); e != api.OK || !slices.Equal(falling, keys("c", "a", "b")) {
		t.Errorf("R6: Object has put the keys that were handed in in order: %q, error %d", falling, e)
	}
}

// TestDeep asks whether all calls end at as many parts in one another as the document allows.
func TestDeep(t *testing.T) { // P7
	const many = 1 << 16
	v, longer := deepest(many, Value{}), deepest(many, truth(false))
	if !v.Good() || deepest(many, Value{Kind: 6}).Good() {
		t.Error("P3.1: Good of a deep value")
	}
	if v.Size() != many+1 || v.Depth() != many {
		t.Errorf("P3.1: size %d, depth %d", v.Size(), v.Depth())
	}
	checkOrder(t, v, longer, -1)
	checkOrder(t, v, v.Copy(), 0)
	if w := List(v, v); w.Size() != 2*many+3 || w.Depth() != many+1 {
		t.Errorf("P3.1: size %d, depth %d", w.Size(), w.Depth())
	}
	w, e := Object(keys("k"), []Value{v})
	if item, ok := w.Item("k"); e != api.OK || !ok || !Same(item, v) {
		t.Errorf("P3.1: Object of a deep item: error %d, %t", e, ok)
	}
}

// TestOthersDontPanic hands what is no value to the calls.
func TestOthersDontPanic(t *testing.T) { // P7
	l := append(bad(), chain()[:20]...)
	for _, v := range l {
		for _, w := range l {
			Order(v, w)
			Same(array(v), array(w))
		}
		for _, key := range []string{"", "a", "b", "c", "\xFF"} {
			v.Item(key)
		}
		v.Size()
		v.Depth()
		v.Copy()
		List(v).Copy()
		Object(v.Keys, v.Items)
	}
}

// FuzzValues asks whether any values are spoken of alike by all calls, and whether none panics (P7).
func FuzzValues(f *testing.F) {
	f.Add([]byte{}, []byte{1, 1})
	f.Add([]byte{4, 3, 0, 1, 1, 2, 4}, []byte{5, 3, 1, 0, 3, 4, 2})
	f.Fuzz(func(t *testing.T, x, y []byte) {
		reads := func(l []byte) func(n int) int {
			return func(n int) int {
				if len(l) == 0 {
					return 0
				}
				first := int(l[0])
				l = l[1:]
				return first % n
			}
		}
		v, w := drawn(reads(x), 6), drawn(reads(y), 6)
		if !v.Good() || !w.Good() {
			t.Fatalf("P3.1: %+v and %+v are values", v, w)
		}
		o := Order(v, w)
		if (o == 0) != alike(v, w) {
			t.Fatalf("P3.2: Order(%+v, %+v): %d", v, w, o)
		}
		checkOrder(t, v, w, o)
		checkOrder(t, List(v, v), List(v, w), Order(v, w))
		checkOrder(t, v, v.Copy(), 0)
		both, e := Object(keys("w", "v"), []Value{w, v})
		if e != api.OK || !both.Good() || both.Size() != 1+v.Size()+w.Size() || both.Depth() != 1+max(v.Depth(), w.Depth()) {
			t.Fatalf("P3.1: %+v, error %d", both, e)
		}
		if item, ok := both.Item("v"); !ok || !alike(item, v) {
			t.Fatalf("P3.1: %+v, %t, want %+v", item, ok, v)
		}
	})
}
