package path

import (
	"iter"
	"math/big"
	"math/rand"
	"reflect"
	"regexp"
	"slices"
	"strconv"
	"strings"
	"testing"
	"unicode/utf8"

	"cheval/api"
	"cheval/value"
)

// steps is a path of those that are listed.
func steps(l ...string) []string { return l }

// The samples are written field by field, so that they don't hang on the calls of another package.

func number(n int64) value.Value         { return value.Value{Kind: value.Int, Int: n} }
func text(s string) value.Value          { return value.Value{Kind: value.Str, Str: s} }
func array(l ...value.Value) value.Value { return value.Value{Kind: value.Arr, Items: l} }

// object has the keys, which must be rising, and an item for each.
func object(keys []string, items ...value.Value) value.Value {
	return value.Value{Kind: value.Obj, Keys: keys, Items: items}
}

// strange are steps that lead somewhere from few values, or seem to lead from arrays.
var strange = []string{
	"", "0", "1", "2", "3", "9", "10", "11", "00", "01", "010", "0x1", "0b1", "1_0", "-", "-0", "-1", "+0", "+1", " 0", "0 ", "1.0", "1e0", "0\x00", "1a", "a1", "\u0661", "\uFF11", "\u00b2",
	"2147483648", "4294967296", "4294967297", "9223372036854775807", "9223372036854775808", "18446744073709551615", "18446744073709551616", "18446744073709551617", "-18446744073709551615", "340282366920938463463374607431768211456", strings.Repeat("0", 40), strings.Repeat("9", 40), strings.Repeat("1", 4000),
	"a", "b", "A", "aa", "a\x00", "~", "/", "~0", "~1", "~01", "a/b", "m~n", "/a", "a/", "~~", "\u00e9", "e\u0301", "\u20ac", "\uFFFD", "\U0001F600", "\xff", "\xed\xa0\x80",
}

// sample is a value in which something stands in each way.
func sample() value.Value {
	return object(steps("", "/", "0", "1", "a", "a/b", "m~n", "~0", "~01", "\u00e9"),
		number(1),
		text("slash"),
		array(number(10), number(11), number(12)),
		object(steps("0"), text("in")),
		array(array(array()), object(nil), array(object(steps("a", "b"), number(5), number(6)), value.Value{})),
		value.Value{},
		value.Value{Kind: value.Bool, Bool: true},
		array(slices.Repeat([]value.Value{number(7)}, 12)...),
		object(steps(""), object(steps(""), object(steps("", "x"), number(0), array()))),
		text("\u20ac"),
	)
}

// drawn is a value that numbers lead to, of at most so many levels.
func drawn(next func(n int) int, deep int) value.Value {
	kinds := 6
	if deep == 0 {
		kinds = 4
	}
	names := steps("", "/", "0", "1", "2", "a", "~", "~1", "\u00e9")
	switch kind := next(kinds); kind {
	case value.Bool:
		return value.Value{Kind: value.Bool, Bool: next(2) == 1}
	case value.Int:
		return number(int64(next(5)))
	case value.Str:
		return text(names[next(len(names))])
	case value.Arr, value.Obj:
		v := value.Value{Kind: kind}
		first := next(5)
		for at := range next(5) {
			v.Items = append(v.Items, drawn(next, deep-1))
			if kind == value.Obj {
				v.Keys = append(v.Keys, names[first+at])
			}
		}
		return v
	}
	return value.Value{}
}

// some are values that a rule of this test leads to, and the sample.
func some(many int) []value.Value {
	random := rand.New(rand.NewSource(4))
	l := []value.Value{sample()}
	for range many {
		l = append(l, drawn(random.Intn, 3))
	}
	return l
}

// deepest is a value of so many arrays, and objects, in one another, and the path that leads to the leaf.
func deepest(many int, leaf value.Value) (value.Value, []string) {
	v := leaf
	var p []string
	for at := range many {
		if at%2 == 0 {
			v, p = array(v), append(p, "0")
		} else {
			v, p = object(steps("k"), v), append(p, "k")
		}
	}
	slices.Reverse(p)
	return v, p
}

// alike holds two values against each other field by field; an empty list is nil or empty (R5).
func alike(a, b value.Value) bool {
	if a.Kind != b.Kind || a.Bool != b.Bool || a.Int != b.Int || a.Str != b.Str {
		return false
	}
	return slices.Equal(a.Keys, b.Keys) && slices.EqualFunc(a.Items, b.Items, alike)
}

// frozen is a value as a text, by which it is seen whether it was changed, spare room too.
func frozen(v value.Value) string {
	var b strings.Builder
	freeze(&b, v)
	return b.String()
}

func freeze(b *strings.Builder, v value.Value) {
	b.WriteString(strconv.Itoa(v.Kind) + strconv.FormatBool(v.Bool) + strconv.FormatInt(v.Int, 10) + strconv.Quote(v.Str) + "(")
	for _, key := range v.Keys[:cap(v.Keys)] {
		b.WriteString(strconv.Quote(key) + ",")
	}
	b.WriteString(")[")
	for _, item := range v.Items[:cap(v.Items)] {
		freeze(b, item)
		b.WriteString(",")
	}
	b.WriteString("]")
}

// spoil writes to all that a value has, spare room too.
func spoil(v value.Value) {
	for at := range v.Keys[:cap(v.Keys)] {
		v.Keys[:cap(v.Keys)][at] = "spoilt"
	}
	for at := range v.Items[:cap(v.Items)] {
		item := &v.Items[:cap(v.Items)][at]
		spoil(*item)
		*item = text("spoilt")
	}
}

// spoilSteps writes to all that a path has, spare room too.
func spoilSteps(p []string) {
	for at := range p[:cap(p)] {
		p[:cap(p)][at] = "spoilt"
	}
}

// told is what the words of the chapter tell of a text, byte by byte.
func told(s string) ([]string, int, api.Errno) {
	for at := 0; at < len(s); {
		point, size := utf8.DecodeRuneInString(s[at:])
		if point == utf8.RuneError && size == 1 {
			return nil, at, api.ErrUTF
		}
		at += size
	}
	var p []string
	for at := 0; at < len(s); at++ {
		last := len(p) - 1
		switch {
		case s[at] == '/':
			p = append(p, "")
		case last < 0:
			return nil, at, api.ErrForm
		case s[at] != '~':
			p[last] += s[at : at+1]
		case at+1 < len(s) && s[at+1] == '0':
			p[last] += "~"
			at++
		case at+1 < len(s) && s[at+1] == '1':
			p[last] += "/"
			at++
		default:
			return nil, at + 1, api.ErrForm
		}
	}
	return p, 0, api.OK
}

func checkParse(t *testing.T, s string, want []string, place int, e api.Errno) {
	t.Helper()
	p, at, err := Parse(s)
	if err != e || at != place || !slices.Equal(p, want) {
		t.Fatalf("P4.1: Parse(%q): %q, place %d, error %d, want %q, place %d, error %d", s, p, at, err, want, place, e)
	}
}

func TestParse(t *testing.T) { // P4.1
	for _, x := range []struct {
		s    string
		want []string
	}{
		{"", nil}, {"/", steps("")}, {"//", steps("", "")}, {"///", steps("", "", "")},
		{"/a/1", steps("a", "1")}, // the document's example
		{"/a", steps("a")}, {"/a/", steps("a", "")}, {"//a", steps("", "a")}, {"/a//b", steps("a", "", "b")}, {"/abc/de", steps("abc", "de")},
		{"/0/00/-1", steps("0", "00", "-1")}, {"/ / a\n", steps(" ", " a\n")}, {"/\x00", steps("\x00")},
		{"/~0", steps("~")}, {"/~1", steps("/")}, {"/~0~0", steps("~~")}, {"/~1~1", steps("//")}, {"/~0~1", steps("~/")}, {"/~1~0", steps("/~")},
		{"/~01", steps("~1")}, {"/~00", steps("~0")}, {"/~10", steps("/0")}, {"/~11", steps("/1")}, {"/~001", steps("~01")}, {"/~0/1", steps("~", "1")}, {"/~1/0", steps("/", "0")}, {"/~01~10", steps("~1/0")},
		{"/a~1b/m~0n", steps("a/b", "m~n")}, {"/~0a~1", steps("~a/")}, {"/%7E/\\", steps("%7E", "\\")},
		{"/\u00e9/\u20ac~1\U0001F600", steps("\u00e9", "\u20ac/\U0001F600")}, {"/\uFFFD", steps("\uFFFD")},
	} {
		checkParse(t, x.s, x.want, 0, api.OK)
	}
}

func TestParseOfOthers(t *testing.T) { // P4.1 and R2
	for _, x := range []struct {
		s     string
		place int
		want  api.Errno
	}{
		{"a", 0, api.ErrForm}, {"a/b", 0, api.ErrForm}, {" /a", 0, api.ErrForm}, {"~", 0, api.ErrForm}, {"~0", 0, api.ErrForm}, {"~1a", 0, api.ErrForm}, {"0", 0, api.ErrForm}, {"\u00e9", 0, api.ErrForm}, {"\uFFFD/", 0, api.ErrForm}, {"\x00", 0, api.ErrForm}, {"#/a", 0, api.ErrForm}, {"a~2", 0, api.ErrForm},
		{"/~", 2, api.ErrForm}, {"/~2", 2, api.ErrForm}, {"/~~", 2, api.ErrForm}, {"/~~0", 2, api.ErrForm}, {"/~/", 2, api.ErrForm}, {"/~/0", 2, api.ErrForm}, {"/~a", 2, api.ErrForm}, {"/~\u00e9", 2, api.ErrForm}, {"/~ 0", 2, api.ErrForm}, {"/~\x00", 2, api.ErrForm}, {"/~00/~", 6, api.ErrForm},
		{"/a~", 3, api.ErrForm}, {"/~0~", 4, api.ErrForm}, {"/~1~3", 4, api.ErrForm}, {"/~01~", 5, api.ErrForm}, {"/a/b~", 5, api.ErrForm}, {"/~2/~3", 2, api.ErrForm}, {"/a~0b~1c~x", 9, api.ErrForm}, {"/\u00e9~", 4, api.ErrForm}, {"/\U0001F600~\u20ac", 6, api.ErrForm},
		{"\xff", 0, api.ErrUTF}, {"/\xff", 1, api.ErrUTF}, {"/a\x80", 2, api.ErrUTF}, {"/\u00e9\xc3", 3, api.ErrUTF}, {"/\xe2\x82", 1, api.ErrUTF}, {"/\xc0\x80", 1, api.ErrUTF}, {"/\xed\xa0\x80", 1, api.ErrUTF}, {"/\xf4\x90\x80\x80", 1, api.ErrUTF}, {"/a/\uFFFD\xff\xff", 6, api.ErrUTF},
		// The bytes are looked at first, whatever else is wrong ahead of them.
		{"a\xff", 1, api.ErrUTF}, {"/~\xff", 2, api.ErrUTF}, {"/~2\xff", 3, api.ErrUTF}, {"~\x80", 1, api.ErrUTF}, {"a/~2/b\xc3", 6, api.ErrUTF}, {"/~0\xff", 3, api.ErrUTF},
	} {
		checkParse(t, x.s, nil, x.place, x.want)
	}
}

// TestParseOfAllShort asks for all texts of up to six of some bytes.
func TestParseOfAllShort(t *testing.T) { // P4.1
	pieces := steps("/", "~", "0", "1", "2", "\u00e9", "\xc3")
	l := steps("")
	for range 6 {
		for _, s := range l {
			p, at, e := told(s)
			checkParse(t, s, p, at, e)
		}
		longer := make([]string, 0, len(l)*len(pieces))
		for _, s := range l {
			for _, piece := range pieces {
				longer = append(longer, s+piece)
			}
		}
		l = longer
	}
}

func TestPrint(t *testing.T) { // P4.1
	for _, x := range []struct {
		p    []string
		want string
	}{
		{nil, ""}, {[]string{}, ""}, {steps(""), "/"}, {steps("", ""), "//"}, {steps("a", "1"), "/a/1"}, {steps("a", "", "b"), "/a//b"}, {steps("", "a"), "//a"},
		{steps("~"), "/~0"}, {steps("/"), "/~1"}, {steps("~0"), "/~00"}, {steps("~1"), "/~01"}, {steps("/0"), "/~10"}, {steps("~~"), "/~0~0"}, {steps("//"), "/~1~1"}, {steps("~/"), "/~0~1"}, {steps("/~"), "/~1~0"}, {steps("a/b", "m~n"), "/a~1b/m~0n"}, {steps("~01"), "/~001"}, {steps("a/", "/b"), "/a~1/~1b"},
		{steps("\u00e9", "\u20ac/\U0001F600", "\x00\n\"\\"), "/\u00e9/\u20ac~1\U0001F600/\x00\n\"\\"},
	} {
		if s := Print(x.p); s != x.want {
			t.Errorf("P4.1: Print(%q): %q, want %q", x.p, s, x.want)
		}
	}
}

// TestTextIsParsed asks whether a path's text is parsed as it, and what is parsed is printed as it was.
func TestTextIsParsed(t *testing.T) { // P4.2
	parts := steps("", "~", "/", "0", "1", "a", "~0", "~1", "/1", "\u00e9", "\U0001F600")
	check := func(p ...string) {
		t.Helper()
		s := Print(p)
		back, at, e := Parse(s)
		if e != api.OK || at != 0 || !slices.Equal(back, p) {
			t.Fatalf("P4.2: %q is printed %q, which is parsed as %q, place %d, error %d", p, s, back, at, e)
		}
		if again := Print(back); again != s {
			t.Fatalf("P4.2: %q is printed as %q", s, again)
		}
	}
	check()
	for _, a := range parts {
		check(a)
		for _, b := range parts {
			check(a, b)
			check(a + b)
			for _, c := range parts {
				check(a, b, c)
				check(a+b+c, a+b)
			}
		}
	}
	for _, s := range strange {
		if utf8.ValidString(s) {
			check(s)
			check("a", s, s)
		}
	}
	many := slices.Repeat(steps("~/", "", "a~01"), 1<<16)
	check(many...)
	check(strings.Join(many, "/"))
}

// checkFound asks what a path leads to.
func checkFound(t *testing.T, v value.Value, p []string, want value.Value) {
	t.Helper()
	if w, e := Get(v, p); e != api.OK || !alike(w, want) {
		t.Fatalf("P4.1: Get(%+v, %q): %+v, error %d, want %+v", v, p, w, e, want)
	}
}

// checkNowhere asks whether a path that leads nowhere is told of as such by all calls.
func checkNowhere(t *testing.T, v value.Value, p []string) {
	t.Helper()
	w, e := Get(v, p)
	if e != api.ErrNone || !reflect.DeepEqual(w, value.Value{}) {
		t.Fatalf("P4.1: Get(%+v, %q): %+v, error %d", v, p, w, e)
	}
	w, e = Set(v, p, text("new"))
	if e != api.ErrNone || !reflect.DeepEqual(w, value.Value{}) {
		t.Fatalf("P4.1: Set(%+v, %q): %+v, error %d", v, p, w, e)
	}
	w, e = Remove(v, p)
	if e != api.ErrNone || !reflect.DeepEqual(w, value.Value{}) {
		t.Fatalf("P4.1: Remove(%+v, %q): %+v, error %d", v, p, w, e)
	}
}

func TestGet(t *testing.T) { // P4.1
	v := sample()
	for _, x := range []struct {
		p    []string
		want value.Value
	}{
		{nil, sample()}, {[]string{}, sample()},
		{steps(""), number(1)}, {steps("/"), text("slash")}, {steps("0"), array(number(10), number(11), number(12))}, {steps("0", "0"), number(10)}, {steps("0", "2"), number(12)},
		{steps("1"), object(steps("0"), text("in"))}, {steps("1", "0"), text("in")},
		{steps("a", "0"), array(array())}, {steps("a", "0", "0"), array()}, {steps("a", "1"), object(nil)}, {steps("a", "2", "0", "b"), number(6)}, {steps("a", "2", "1"), value.Value{}},
		{steps("a/b"), value.Value{}}, {steps("m~n"), value.Value{Kind: value.Bool, Bool: true}}, {steps("~0", "0"), number(7)}, {steps("~0", "9"), number(7)}, {steps("~0", "10"), number(7)}, {steps("~0", "11"), number(7)},
		{steps("~01", "", ""), object(steps("", "x"), number(0), array())}, {steps("~01", "", "", ""), number(0)}, {steps("~01", "", "", "x"), array()}, {steps("\u00e9"), text("\u20ac")},
	} {
		checkFound(t, v, x.p, x.want)
	}
	// the document's example
	checkFound(t, object(steps("a"), array(number(5), number(6))), steps("a", "1"), number(6))
	for _, w := range []value.Value{{}, {Kind: value.Bool}, number(-1), text("a"), array(), object(nil)} {
		checkFound(t, w, nil, w)
	}
}

func TestNowhere(t *testing.T) { // P4.1
	leaves := []value.Value{{}, {Kind: value.Bool}, {Kind: value.Bool, Bool: true}, number(0), number(10), text(""), text("01"), text("a"), array(), object(nil)}
	for _, v := range leaves {
		for _, step := range strange {
			checkNowhere(t, v, steps(step))
			checkNowhere(t, array(v), steps("0", step))
			checkNowhere(t, object(steps(step), v), steps(step, step))
			checkNowhere(t, object(steps(step), v), steps(step, "0"))
		}
	}
	v := sample()
	for _, p := range [][]string{
		{"b"}, {"A"}, {"aa"}, {"a", "b"}, {"a", "3"}, {"a", "00"}, {"0", "3"}, {"0", "-1"}, {"0", "01"}, {"0", ""}, {"0", "0", "0"}, {"1", "1"}, {"1", "00"}, {"1", ""}, {"", ""}, {"", "0"}, {"/", "0"}, {"a", "2", "0", "c"}, {"a", "2", "0", "0"}, {"a", "2", "1", "0"}, {"a", "1", ""},
		{"~0", "12"}, {"~0", "010"}, {"~0", "1 "}, {"~", "0"}, {"~1"}, {"a~1b"}, {"e\u0301"}, {"~01", "x"}, {"~01", "", "x"}, {"~01", "", "", "y"}, {"b", "0"}, {"b", "a", "0"},
	} {
		checkNowhere(t, v, p)
	}
}

// TestIndexes asks for each strange step from arrays of each length up to twelve.
func TestIndexes(t *testing.T) { // P4.1
	for many := range 13 {
		v := value.Value{Kind: value.Arr}
		for at := range many {
			v.Items = append(v.Items, number(int64(at)))
		}
		for at := range 15 {
			if at < many {
				checkFound(t, v, steps(strconv.Itoa(at)), number(int64(at)))
			} else {
				checkNowhere(t, v, steps(strconv.Itoa(at)))
			}
		}
		for _, step := range strange {
			if n, ok := ordinal(step, many); ok {
				checkFound(t, v, steps(step), number(int64(n)))
			} else {
				checkNowhere(t, v, steps(step))
			}
		}
	}
}

// TestNumbersAreKeys asks for each strange step from an object that has it as its key.
func TestNumbersAreKeys(t *testing.T) { // P4.1
	for _, step := range strange {
		if utf8.ValidString(step) {
			checkFound(t, object(steps(step), number(3)), steps(step), number(3))
			checkFound(t, object(steps(step), object(steps(step), number(3))), steps(step, step), number(3))
		}
	}
}

var decimal = regexp.MustCompile(`^(0|[1-9][0-9]*)$`)

// ordinal is the index that a step is by the words, of numbers without end, if it is one of so many.
func ordinal(step string, many int) (int, bool) {
	if !decimal.MatchString(step) {
		return 0, false
	}
	n, _ := new(big.Int).SetString(step, 10)
	if n.Cmp(big.NewInt(int64(many))) >= 0 {
		return 0, false
	}
	return int(n.Int64()), true
}

// plain is a value as Go's own: maps for objects, lists for arrays.
func plain(v value.Value) any {
	switch v.Kind {
	case value.Bool:
		return v.Bool
	case value.Int:
		return v.Int
	case value.Str:
		return v.Str
	case value.Arr:
		l := []any{}
		for _, item := range v.Items {
			l = append(l, plain(item))
		}
		return l
	case value.Obj:
		m := map[string]any{}
		for at, key := range v.Keys {
			m[key] = plain(v.Items[at])
		}
		return m
	}
	return nil
}

// plainGet is what a path leads to.
func plainGet(x any, p []string) (any, bool) {
	if len(p) == 0 {
		return x, true
	}
	switch y := x.(type) {
	case []any:
		if n, ok := ordinal(p[0], len(y)); ok {
			return plainGet(y[n], p[1:])
		}
	case map[string]any:
		if item, ok := y[p[0]]; ok {
			return plainGet(item, p[1:])
		}
	}
	return nil, false
}

// plainSet has something else where a path leads to.
func plainSet(x any, p []string, w any) any {
	if len(p) == 0 {
		return w
	}
	switch y := x.(type) {
	case []any:
		n, _ := ordinal(p[0], len(y))
		y[n] = plainSet(y[n], p[1:], w)
	case map[string]any:
		y[p[0]] = plainSet(y[p[0]], p[1:], w)
	}
	return x
}

// plainRemove is without what a path leads to.
func plainRemove(x any, p []string) any {
	last := len(p) - 1
	holder, _ := plainGet(x, p[:last])
	switch y := holder.(type) {
	case []any:
		n, _ := ordinal(p[last], len(y))
		return plainSet(x, p[:last], append(append([]any{}, y[:n]...), y[n+1:]...))
	case map[string]any:
		delete(y, p[last])
	}
	return x
}

// checkPath holds Get, Set and Remove of a path against Go's own maps and lists.
func checkPath(t *testing.T, v value.Value, p []string, w value.Value) {
	t.Helper()
	found, ok := plainGet(plain(v), p)
	if !ok {
		checkNowhere(t, v, p)
		return
	}
	got, e := Get(v, p)
	if e != api.OK || !got.Good() || !reflect.DeepEqual(plain(got), found) {
		t.Fatalf("P4.1: Get(%+v, %q): %+v, error %d, want %v", v, p, got, e, found)
	}
	got, e = Set(v, p, w)
	want := plainSet(plain(v), p, plain(w))
	if e != api.OK || !got.Good() || !reflect.DeepEqual(plain(got), want) {
		t.Fatalf("P4.1: Set(%+v, %q, %+v): %+v, error %d, want %v", v, p, w, got, e, want)
	}
	got, e = Remove(v, p)
	if len(p) == 0 {
		if e != api.ErrRange || !reflect.DeepEqual(got, value.Value{}) {
			t.Fatalf("P4.1: Remove(%+v, %q): %+v, error %d", v, p, got, e)
		}
		return
	}
	want = plainRemove(plain(v), p)
	if e != api.OK || !got.Good() || !reflect.DeepEqual(plain(got), want) {
		t.Fatalf("P4.1: Remove(%+v, %q): %+v, error %d, want %v", v, p, got, e, want)
	}
}

// TestAgainstPlain asks for each path of some values, and for each that has a strange step behind it.
func TestAgainstPlain(t *testing.T) { // P4.1 and P4.3
	fresh := []value.Value{{}, number(99), text("new"), array(), array(number(1), object(steps("a"), number(2))), object(steps("0", "a"), array(), text("new"))}
	for at, v := range some(300) {
		w := fresh[at%len(fresh)]
		for _, p := range pathsOf(v) {
			checkPath(t, v, p, w)
			for _, step := range strange {
				checkPath(t, v, append(slices.Clone(p), step), w)
			}
		}
	}
}

// pathsOf are the paths that lead somewhere from a value.
func pathsOf(v value.Value) [][]string {
	l := [][]string{nil}
	for at, item := range v.Items {
		step := strconv.Itoa(at)
		if v.Kind == value.Obj {
			step = v.Keys[at]
		}
		for _, p := range pathsOf(item) {
			l = append(l, append(steps(step), p...))
		}
	}
	return l
}

func TestSet(t *testing.T) { // P4.1 and P4.3
	v := object(steps("a", "b"), array(number(5), number(6)), text("x"))
	for _, x := range []struct {
		p    []string
		w    value.Value
		want value.Value
	}{
		{nil, number(1), number(1)}, {nil, array(), array()},
		{steps("a"), number(1), object(steps("a", "b"), number(1), text("x"))},
		{steps("b"), array(array()), object(steps("a", "b"), array(number(5), number(6)), array(array()))},
		{steps("a", "0"), value.Value{}, object(steps("a", "b"), array(value.Value{}, number(6)), text("x"))},
		{steps("a", "1"), object(steps("a"), text("y")), object(steps("a", "b"), array(number(5), object(steps("a"), text("y"))), text("x"))},
		{steps("a", "1"), v, object(steps("a", "b"), array(number(5), v), text("x"))},
	} {
		if w, e := Set(v, x.p, x.w); e != api.OK || !alike(w, x.want) {
			t.Errorf("P4.1: Set(%q, %+v): %+v, error %d, want %+v", x.p, x.w, w, e, x.want)
		}
	}
	// What isn't there isn't put there: neither a new key nor an item behind the last.
	for _, p := range [][]string{{"c"}, {""}, {"a", "2"}, {"a", "-"}, {"b", "0"}} {
		checkNowhere(t, v, p)
	}
}

func TestRemove(t *testing.T) { // P4.1 and P4.3
	v := object(steps("a", "b", "c"), array(number(5), number(6), number(7)), text("x"), array(number(8)))
	abc := steps("a", "b", "c")
	for _, x := range []struct {
		p    []string
		want value.Value
	}{
		{steps("a"), object(steps("b", "c"), text("x"), array(number(8)))},
		{steps("b"), object(steps("a", "c"), array(number(5), number(6), number(7)), array(number(8)))},
		{steps("c"), object(steps("a", "b"), array(number(5), number(6), number(7)), text("x"))},
		{steps("a", "0"), object(abc, array(number(6), number(7)), text("x"), array(number(8)))},
		{steps("a", "1"), object(abc, array(number(5), number(7)), text("x"), array(number(8)))},
		{steps("a", "2"), object(abc, array(number(5), number(6)), text("x"), array(number(8)))},
		{steps("c", "0"), object(abc, array(number(5), number(6), number(7)), text("x"), array())},
	} {
		if w, e := Remove(v, x.p); e != api.OK || !alike(w, x.want) || !w.Good() {
			t.Errorf("P4.1: Remove(%q): %+v, error %d, want %+v", x.p, w, e, x.want)
		}
	}
	if w, e := Remove(object(steps("a"), number(1)), steps("a")); e != api.OK || !alike(w, object(nil)) || !w.Good() {
		t.Errorf("P4.1: the only item is removed: %+v, error %d", w, e)
	}
	for _, w := range []value.Value{v, {}, number(1), text(""), array(), object(nil)} {
		for _, p := range [][]string{nil, {}} {
			if got, e := Remove(w, p); e != api.ErrRange || !reflect.DeepEqual(got, value.Value{}) {
				t.Errorf("P4.1: Remove(%+v, %q): %+v, error %d", w, p, got, e)
			}
		}
	}
}

// begins tells whether the steps of one path are the first ones of another.
func begins(p, q []string) bool {
	return len(p) <= len(q) && slices.Equal(p, q[:len(p)])
}

// TestWhatIsSetIsThere sets something at each path, and asks for what stands at each.
func TestWhatIsSetIsThere(t *testing.T) { // P4.3
	w := array(text("new"), object(steps("0"), number(1)))
	for _, v := range some(200) {
		l := pathsOf(v)
		for _, p := range l {
			got, e := Set(v, p, w)
			if e != api.OK {
				t.Fatalf("P4.3: Set(%+v, %q): error %d", v, p, e)
			}
			checkFound(t, got, p, w)
			for _, q := range l {
				if !begins(p, q) && !begins(q, p) {
					was, _ := Get(v, q)
					checkFound(t, got, q, was)
				}
			}
			// What was there may be set again: then all is as it was.
			was, _ := Get(v, p)
			if again, e := Set(got, p, was); e != api.OK || !alike(again, v) {
				t.Fatalf("P4.3: %q of %+v, set there and back: %+v, error %d", p, v, again, e)
			}
		}
	}
}

// pair is a path, and what it leads to.
type pair struct {
	p []string
	w value.Value
}

// first are the first ones that an iterator gives, at most so many.
func first(many int, all iter.Seq2[[]string, value.Value]) []pair {
	var l []pair
	if many == 0 {
		return nil
	}
	for p, w := range all {
		l = append(l, pair{p, w})
		if len(l) == many {
			break
		}
	}
	return l
}

func samePairs(a, b []pair) bool {
	return slices.EqualFunc(a, b, func(x, y pair) bool { return slices.Equal(x.p, y.p) && alike(x.w, y.w) })
}

func TestAll(t *testing.T) { // P4.1
	inner := object(steps("", "b/"), number(2), array(number(3), text("x")))
	v := array(number(1), array(), inner, value.Value{})
	want := []pair{
		{nil, v}, {steps("0"), number(1)}, {steps("1"), array()}, {steps("2"), inner}, {steps("2", ""), number(2)}, {steps("2", "b/"), array(number(3), text("x"))}, {steps("2", "b/", "0"), number(3)}, {steps("2", "b/", "1"), text("x")}, {steps("3"), value.Value{}},
	}
	if l := first(-1, All(v)); !samePairs(l, want) {
		t.Errorf("P4.1: All(%+v): %+v, want %+v", v, l, want)
	}
	for _, w := range []value.Value{{}, {Kind: value.Bool}, number(3), text("/a"), array(), object(nil)} {
		if l := first(-1, All(w)); !samePairs(l, []pair{{nil, w}}) {
			t.Errorf("P4.1: All(%+v): %+v", w, l)
		}
	}
	// The keys come in order, and so do indexes: 10 behind 9.
	l := first(-1, All(object(steps("0", "10", "9", "a"), number(0), number(10), number(9), array(slices.Repeat([]value.Value{{}}, 12)...))))
	var texts []string
	for _, x := range l {
		texts = append(texts, strings.Join(x.p, "/"))
	}
	if got := strings.Join(texts, " "); got != " 0 10 9 a a/0 a/1 a/2 a/3 a/4 a/5 a/6 a/7 a/8 a/9 a/10 a/11" {
		t.Errorf("P4.1: All's paths: %q", got)
	}
}

// TestAllIsWhatGetTells asks whether All tells each path that leads somewhere, once, and what Get tells of it.
func TestAllIsWhatGetTells(t *testing.T) { // P4.1
	for _, v := range some(300) {
		l, paths := first(-1, All(v)), pathsOf(v)
		if len(l) != len(paths) || len(l) != v.Size() {
			t.Fatalf("P4.1: All(%+v): %d paths, want %d", v, len(l), len(paths))
		}
		for at, x := range l {
			if !slices.Equal(x.p, paths[at]) {
				t.Fatalf("P4.1: All(%+v): path %d is %q, want %q", v, at, x.p, paths[at])
			}
			checkFound(t, v, x.p, x.w)
		}
	}
}

func TestAllStops(t *testing.T) { // P8: R9
	v := sample()
	whole := first(-1, All(v))
	all := All(v)
	for many := range len(whole) + 1 {
		if l := first(many, all); !samePairs(l, whole[:many]) {
			t.Fatalf("R9: the first %d: %+v", many, l)
		}
	}
	// A consumer that says no isn't asked again, wherever it says so.
	for many := 1; many <= len(whole); many++ {
		calls := 0
		all(func([]string, value.Value) bool {
			calls++
			return calls < many
		})
		if calls != many {
			t.Fatalf("R9: %d were given, want %d", calls, many)
		}
	}
}

func TestAllAgain(t *testing.T) { // P8: R6 and R9
	v := sample()
	want := first(-1, All(sample()))
	all := All(v)
	spoil(v)
	if l := first(-1, all); !samePairs(l, want) {
		t.Fatal("R6: All keeps its argument")
	}
	for p, w := range all {
		spoilSteps(p)
		spoil(w)
	}
	if l := first(-1, all); !samePairs(l, want) {
		t.Fatal("R9: gone through again, All gives other things")
	}
	at := 0
	for p, w := range all {
		if l := first(at, all); !samePairs(l, want[:at]) {
			t.Fatal("R9: gone through within itself, All gives other things")
		}
		if !slices.Equal(p, want[at].p) || !alike(w, want[at].w) {
			t.Fatal("R9: All gives other things when it is gone through within itself")
		}
		at++
	}
	// What was given first stays as it is, whatever is done to the others.
	l := first(-1, all)
	for spoilt := range l {
		spoilSteps(l[spoilt].p)
		spoil(l[spoilt].w)
		if !samePairs(l[spoilt+1:], want[spoilt+1:]) {
			t.Fatalf("R6: two answers of All share memory: %d and one behind it", spoilt)
		}
	}
	l = first(-1, all)
	for spoilt := len(l) - 1; spoilt >= 0; spoilt-- {
		spoilSteps(l[spoilt].p)
		spoil(l[spoilt].w)
		if !samePairs(l[:spoilt], want[:spoilt]) {
			t.Fatalf("R6: two answers of All share memory: %d and one ahead of it", spoilt)
		}
	}
}

// roomy is a value whose lists have spare room behind them.
func roomy() value.Value {
	inner := make([]value.Value, 2, 4)
	inner[0], inner[1], inner[:3][2] = number(1), array(text("deep"), text("deeper")), text("spare")
	items := make([]value.Value, 2, 5)
	items[0], items[1], items[:3][2] = array(inner...), object(steps("x", "y"), array(number(2)), text("z")), text("spare")
	keys := make([]string, 2, 5)
	keys[0], keys[1], keys[:3][2] = "a", "b", "spare"
	return object(keys, items...)
}

// room is a path that has spare room behind it.
func room(l ...string) []string {
	return append(append(make([]string, 0, len(l)+3), l...), "spare")[:len(l)]
}

// TestNothingIsShared spoils each answer, and what was handed in, and looks whether anything else was changed.
func TestNothingIsShared(t *testing.T) { // P4.1, and P8: R6 and R8
	calls := map[string]func(v value.Value, p []string, w value.Value) (value.Value, api.Errno){
		"Get":    func(v value.Value, p []string, _ value.Value) (value.Value, api.Errno) { return Get(v, p) },
		"Set":    Set,
		"Remove": func(v value.Value, p []string, _ value.Value) (value.Value, api.Errno) { return Remove(v, p) },
	}
	for name, call := range calls {
		for _, l := range pathsOf(roomy()) {
			if name == "Remove" && len(l) == 0 {
				continue
			}
			v, w, p := roomy(), roomy(), room(l...)
			beforeV, beforeW, beforeP := frozen(v), frozen(w), slices.Clone(p[:cap(p)])
			a, e := call(v, p, w)
			b, f := call(v, p, w)
			if e != api.OK || f != api.OK || !alike(a, b) {
				t.Fatalf("R8: %s of %q answers %+v, error %d, then %+v, error %d", name, p, a, e, b, f)
			}
			unchanged := func() bool {
				return frozen(v) == beforeV && frozen(w) == beforeW && slices.Equal(p[:cap(p)], beforeP)
			}
			if !unchanged() {
				t.Fatalf("R6: %s of %q has changed its arguments", name, p)
			}
			kept := frozen(b)
			spoil(a)
			if !unchanged() {
				t.Fatalf("R6: %s of %q answers memory of its arguments", name, p)
			}
			if frozen(b) != kept {
				t.Fatalf("R6: two answers of %s of %q share memory", name, p)
			}
			spoil(v)
			spoil(w)
			spoilSteps(p)
			if frozen(b) != kept {
				t.Fatalf("R6: %s of %q keeps its arguments", name, p)
			}
		}
	}
}

// TestFailingChangesNothing asks whether what is handed in stays where the answer is an error.
func TestFailingChangesNothing(t *testing.T) { // P4.1, and P8: R6
	v := roomy()
	before := frozen(v)
	for _, p := range [][]string{{"c"}, {"a", "2"}, {"a", "1", "2"}, {"a", "1", "00"}, {"b", "x", "1"}, {"b", "y", "0"}} {
		checkNowhere(t, v, p)
	}
	if _, e := Remove(v, nil); e != api.ErrRange {
		t.Errorf("P4.1: error %d", e)
	}
	if frozen(v) != before {
		t.Error("R6: a value was changed")
	}
}

// TestOneArgumentTwice sets a value in itself.
func TestOneArgumentTwice(t *testing.T) { // P8: R6
	v := array(array(number(1)), number(2))
	got, e := Set(v, steps("1"), v)
	if e != api.OK || !alike(got, array(array(number(1)), v)) {
		t.Fatalf("P4.1: %+v, error %d", got, e)
	}
	got.Items[0].Items[0] = text("spoilt")
	if !alike(got.Items[1], array(array(number(1)), number(2))) || !alike(v, array(array(number(1)), number(2))) {
		t.Errorf("R6: lists of an answer share memory: %+v", got)
	}
}

func TestParsedIsNew(t *testing.T) { // P8: R6 and R8
	a, _, _ := Parse("/a/b~1")
	spoilSteps(a)
	if b, at, e := Parse("/a/b~1"); e != api.OK || at != 0 || !slices.Equal(b, steps("a", "b/")) {
		t.Errorf("R8: %q, place %d, error %d", b, at, e)
	}
	p := room("a~", "/")
	before := slices.Clone(p[:cap(p)])
	if s := Print(p); s != "/a~0/~1" || !slices.Equal(p[:cap(p)], before) {
		t.Errorf("R6: Print: %q, and %q", s, p[:cap(p)])
	}
}

// TestDeep asks whether all calls end at as many parts in one another as the document allows.
func TestDeep(t *testing.T) { // P7
	v, p := deepest(1<<16, number(1))
	w, q := deepest(1<<16, number(2))
	if !slices.Equal(p, q) {
		t.Fatal("the test's own paths differ")
	}
	checkFound(t, v, p, number(1))
	got, e := Set(v, p, number(2))
	if e != api.OK || !alike(got, w) {
		t.Errorf("P4.1: Set at a deep path: error %d", e)
	}
	got, e = Remove(v, p)
	if e != api.OK || got.Depth() != 1<<16 || got.Size() != 1<<16 {
		t.Errorf("P4.1: Remove at a deep path: error %d, depth %d, size %d", e, got.Depth(), got.Size())
	}
	checkNowhere(t, v, append(p, "0"))
	if back, at, e := Parse(Print(p)); e != api.OK || at != 0 || !slices.Equal(back, p) {
		t.Errorf("P4.2: a deep path: place %d, error %d", at, e)
	}
	if l := first(3, All(v)); len(l) != 3 || !slices.Equal(l[2].p, p[:2]) || !alike(l[0].w, v) {
		t.Error("P4.1: All of a deep value")
	}
	lower, p := deepest(1<<10, number(1))
	if l := first(-1, All(lower)); len(l) != 1<<10+1 || !slices.Equal(l[1<<10].p, p) || !alike(l[1<<10].w, number(1)) {
		t.Error("P4.1: All of a value of many parts in one another")
	}
}

// TestOthersDontPanic hands what is no value, and steps that are no texts, to the calls.
func TestOthersDontPanic(t *testing.T) { // P7
	one := []value.Value{number(1)}
	bad := []value.Value{
		{Kind: -1, Items: one}, {Kind: 6, Items: one, Keys: steps("0")}, {Kind: value.Null, Items: one}, {Kind: value.Str, Str: "\xff", Items: one},
		{Kind: value.Arr, Items: one, Keys: steps("0", "1")}, {Kind: value.Arr, Keys: steps("0", "1")},
		{Kind: value.Obj, Keys: steps("0", "1", "a")}, {Kind: value.Obj, Items: one}, {Kind: value.Obj, Keys: steps("0", "1"), Items: one}, {Kind: value.Obj, Keys: steps("0"), Items: append(one, one...)}, {Kind: value.Obj, Keys: steps("b", "a", "0"), Items: append(one, append(one, one...)...)}, {Kind: value.Obj, Keys: steps("\xff"), Items: one},
	}
	for _, b := range bad {
		for _, v := range []value.Value{b, array(b), object(steps("0"), b), array(number(1), b)} {
			for _, step := range strange {
				for _, p := range [][]string{{step}, {"0", step}, {"1", step}, {step, "0"}} {
					Get(v, p)
					Set(v, p, b)
					Remove(v, p)
					Print(p)
				}
			}
			for range All(v) {
			}
		}
	}
	if s := Print(steps("\xff~")); s != "/\xff~0" {
		t.Errorf("P4.1: %q", s)
	}
}

// FuzzTexts asks whether any bytes are parsed by the words, and printed as they were (P4.1, P4.2).
func FuzzTexts(f *testing.F) {
	for _, s := range steps("", "/", "/a/1", "/~01~1/~", "/~\xff", "a", "/\u20ac~2") {
		f.Add(s)
	}
	f.Fuzz(func(t *testing.T, s string) {
		p, at, e := told(s)
		checkParse(t, s, p, at, e)
		if e == api.OK && Print(p) != s {
			t.Fatalf("P4.2: %q is printed as %q", s, Print(p))
		}
		if back, at, e := Parse(Print(steps(s))); utf8.ValidString(s) && (e != api.OK || at != 0 || !slices.Equal(back, steps(s))) {
			t.Fatalf("P4.2: the step %q is parsed as %q, place %d, error %d", s, back, at, e)
		}
	})
}

// FuzzValues asks whether the calls do to any values, at any paths, what Go's own maps and lists do (P4.1, P4.3).
func FuzzValues(f *testing.F) {
	f.Add([]byte{4, 0, 3, 2, 1, 2, 2, 3, 5}, "/1", []byte{0})
	f.Add([]byte{5, 4, 2, 4, 0, 1, 2, 3}, "/~0/0", []byte{4, 0, 1, 0})
	f.Fuzz(func(t *testing.T, x []byte, s string, y []byte) {
		reads := func(l []byte) func(n int) int {
			return func(n int) int {
				if len(l) == 0 {
					return 0
				}
				first := int(l[0])
				l = l[1:]
				return first % n
			}
		}
		v, w := drawn(reads(x), 4), drawn(reads(y), 4)
		before := frozen(v)
		if p, _, e := Parse(s); e == api.OK {
			checkPath(t, v, p, w)
		}
		for p, found := range All(v) {
			checkFound(t, v, p, found)
			checkPath(t, v, p, w)
		}
		if frozen(v) != before {
			t.Fatalf("R6: a value was changed to %+v", v)
		}
	})
}
