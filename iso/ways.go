package iso

import (
	"slices"
	"strings"

	"cheval/api"
	"cheval/glyph"
	"cheval/value"
	"cheval/whole"
)

// nowhere leads from no value.
func (Iso) nowhere(value.Value) (value.Value, api.Errno) {
	return value.Value{}, api.ErrKind
}

// negate leads from an integer to 0 less it.
func (Iso) negate(v value.Value) (value.Value, api.Errno) {
	return reckoned(v, whole.Neg)
}

// add leads from an integer to it and N.
func (x Iso) add(v value.Value) (value.Value, api.Errno) {
	return reckoned(v, func(n int64) (int64, api.Errno) { return whole.Add(n, x.N) })
}

// subtract leads from an integer to it less N.
func (x Iso) subtract(w value.Value) (value.Value, api.Errno) {
	return reckoned(w, func(n int64) (int64, api.Errno) { return whole.Sub(n, x.N) })
}

// multiply leads from an integer to it times N.
func (x Iso) multiply(v value.Value) (value.Value, api.Errno) {
	return reckoned(v, func(n int64) (int64, api.Errno) { return whole.Mul(n, x.N) })
}

// divide leads from an integer that is one times N to that one.
func (x Iso) divide(w value.Value) (value.Value, api.Errno) {
	return reckoned(w, func(n int64) (int64, api.Errno) {
		rest, e := whole.Mod(n, x.N)
		if e != api.OK || rest != 0 {
			return 0, api.ErrNone
		}
		return whole.Div(n, x.N)
	})
}

// flip leads from a truth to the other one.
func (Iso) flip(v value.Value) (value.Value, api.Errno) {
	if v.Kind != value.Bool {
		return value.Value{}, api.ErrKind
	}
	return value.Truth(!v.Bool), api.OK
}

// reverse leads from an array, or a text, to that from the last item, or point, on.
func (Iso) reverse(v value.Value) (value.Value, api.Errno) {
	if v.Kind == value.Arr {
		items := slices.Clone(v.Items)
		slices.Reverse(items)
		return list(items...), api.OK
	}
	points, e := pointsOf(v)
	if e != api.OK {
		return value.Value{}, e
	}
	slices.Reverse(points)
	s, _ := glyph.Text(points)
	return value.Text(s), api.OK
}

// swap leads from an array of two items to that of both exchanged.
func (Iso) swap(v value.Value) (value.Value, api.Errno) {
	if !isList(v, 2) {
		return value.Value{}, api.ErrKind
	}
	return list(v.Items[1], v.Items[0]), api.OK
}

// box leads from any value to the array of it alone.
func (Iso) box(v value.Value) (value.Value, api.Errno) {
	return list(v), api.OK
}

// unbox leads from an array of one item to that.
func (Iso) unbox(w value.Value) (value.Value, api.Errno) {
	if !isList(w, 1) {
		return value.Value{}, api.ErrKind
	}
	return w.Items[0], api.OK
}

// tag leads from any value to the object of Key alone, whose item it is.
func (x Iso) tag(v value.Value) (value.Value, api.Errno) {
	return object([]string{x.Key}, []value.Value{v}), api.OK
}

// untag leads from an object of Key alone to its item.
func (x Iso) untag(w value.Value) (value.Value, api.Errno) {
	if !isObject(w) || len(w.Keys) != 1 || w.Keys[0] != x.Key {
		return value.Value{}, api.ErrKind
	}
	return w.Items[0], api.OK
}

// show leads from an integer to its text.
func (Iso) show(v value.Value) (value.Value, api.Errno) {
	if v.Kind != value.Int {
		return value.Value{}, api.ErrKind
	}
	return value.Text(whole.Text(v.Int)), api.OK
}

// read leads from an integer's text to that.
func (Iso) read(w value.Value) (value.Value, api.Errno) {
	if w.Kind != value.Str {
		return value.Value{}, api.ErrKind
	}
	n, e := whole.Parse(w.Str)
	// A number's text may be none of an integer: -0.
	if e != api.OK || whole.Text(n) != w.Str {
		return value.Value{}, api.ErrNone
	}
	return value.Number(n), api.OK
}

// part leads from a text to the array of the texts of each of its points.
func (Iso) part(v value.Value) (value.Value, api.Errno) {
	points, e := pointsOf(v)
	if e != api.OK {
		return value.Value{}, e
	}
	items := make([]value.Value, len(points))
	for at, point := range points {
		items[at] = value.Text(glyph.Encode(point))
	}
	return list(items...), api.OK
}

// join leads from an array of texts of one point each to the text of those.
func (Iso) join(w value.Value) (value.Value, api.Errno) {
	if w.Kind != value.Arr {
		return value.Value{}, api.ErrKind
	}
	var b strings.Builder
	for _, item := range w.Items {
		if !isPoint(item) {
			return value.Value{}, api.ErrNone
		}
		b.WriteString(item.Str)
	}
	return value.Text(b.String()), api.OK
}

// pair leads from an object to the array of the arrays of a key's text and its item.
func (Iso) pair(v value.Value) (value.Value, api.Errno) {
	if !isObject(v) {
		return value.Value{}, api.ErrKind
	}
	pairs := make([]value.Value, len(v.Items))
	for at, item := range v.Items {
		pairs[at] = list(value.Text(v.Keys[at]), item)
	}
	return list(pairs...), api.OK
}

// gather leads from an array of such arrays, of which the keys are rising, to the object.
func (Iso) gather(w value.Value) (value.Value, api.Errno) {
	if w.Kind != value.Arr {
		return value.Value{}, api.ErrKind
	}
	keys, items := make([]string, len(w.Items)), make([]value.Value, len(w.Items))
	for at, pair := range w.Items {
		if !isList(pair, 2) || pair.Items[0].Kind != value.Str {
			return value.Value{}, api.ErrNone
		}
		keys[at], items[at] = pair.Items[0].Str, pair.Items[1]
		if at > 0 && keys[at-1] >= keys[at] {
			return value.Value{}, api.ErrNone
		}
	}
	return object(keys, items), api.OK
}

// reckoned is the value of what is reckoned with an integer.
func reckoned(v value.Value, reckon func(n int64) (int64, api.Errno)) (value.Value, api.Errno) {
	if v.Kind != value.Int {
		return value.Value{}, api.ErrKind
	}
	n, e := reckon(v.Int)
	if e != api.OK {
		return value.Value{}, e
	}
	return value.Number(n), api.OK
}

// pointsOf are a text's.
func pointsOf(v value.Value) ([]int, api.Errno) {
	points, ok := glyph.Points(v.Str)
	if v.Kind != value.Str || !ok {
		return nil, api.ErrKind
	}
	return points, api.OK
}

// isPoint: is it the text of one point?
func isPoint(v value.Value) bool {
	_, many := glyph.Decode(v.Str)
	return v.Kind == value.Str && many > 0 && many == len(v.Str)
}

// isList: is it an array of so many items?
func isList(v value.Value, many int) bool {
	return v.Kind == value.Arr && len(v.Items) == many
}

// isObject: is it an object?
func isObject(v value.Value) bool {
	// Of what is no good value a key, or an item, may be missing.
	return v.Kind == value.Obj && len(v.Keys) == len(v.Items)
}

// list is the array of items.
func list(items ...value.Value) value.Value {
	// What package value makes a list by copies its items, all that they hold: that would be done again on each way.
	return value.Value{Kind: value.Arr, Items: items}
}

// object is that of rising keys, and their items.
func object(keys []string, items []value.Value) value.Value {
	return value.Value{Kind: value.Obj, Keys: keys, Items: items}
}
