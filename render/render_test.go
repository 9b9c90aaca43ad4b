package render

import (
	"bytes"
	"encoding/json"
	"fmt"
	"math"
	"math/rand"
	"slices"
	"strconv"
	"strings"
	"testing"
	"unicode/utf8"

	"cheval/api"
	"cheval/reader"
	"cheval/value"
)

// The samples are written field by field, so that they don't hang on the calls of another package.

func null() value.Value                   { return value.Value{Kind: value.Null} }
func truth(b bool) value.Value            { return value.Value{Kind: value.Bool, Bool: b} }
func number(n int64) value.Value          { return value.Value{Kind: value.Int, Int: n} }
func text(s string) value.Value           { return value.Value{Kind: value.Str, Str: s} }
func listed(l ...value.Value) value.Value { return value.Value{Kind: value.Arr, Items: l} }
func keys(l ...string) []string           { return l }

// record has the keys, which must be rising, and an item for each.
func record(keys []string, items ...value.Value) value.Value {
	return value.Value{Kind: value.Obj, Keys: keys, Items: items}
}

// alike: are all fields the same? Of a list it doesn't matter whether it is nil or empty.
func alike(a, b value.Value) bool {
	return a.Kind == b.Kind && a.Bool == b.Bool && a.Int == b.Int && a.Str == b.Str &&
		slices.Equal(a.Keys, b.Keys) && slices.EqualFunc(a.Items, b.Items, alike)
}

// words are texts of all that is written in its own way.
func words() []string {
	return []string{
		"", "a", "b", "aa", "ab", " ", "0", "1", "null", "true", "[]", "{}", ",", ":", "a\":1,\"b", "/", "\\", "\"", "\\\"", "\\n", "\\u0000", "'", "<&>",
		"\x00", "\x01", "\x07", "\b", "\t", "\n", "\v", "\f", "\r", "\x0e", "\x0f", "\x10", "\x1a", "\x1f", "\x7f", "\u0080", "\u009f", "\u00e9", "e\u0301", "\u07ff", "\u0800", "\u2028", "\u2029", "\u20ac", "\ud7ff", "\ue000", "\ufffd", "\uffff", "\U00010000", "\U0001f600", "\U0010ffff",
		"a\nb\tc", "\r\n", "x\u20acy\U0001f600z",
	}
}

// leaves are values without items.
func leaves() []value.Value {
	l := []value.Value{null(), truth(false), truth(true), listed(), record(nil)}
	for _, n := range []int64{0, 1, -1, 9, 10, -10, 12, 100, 1 << 31, -1 << 32, math.MaxInt64 - 1, math.MaxInt64, math.MinInt64 + 1, math.MinInt64} {
		l = append(l, number(n))
	}
	for _, s := range words() {
		l = append(l, text(s))
	}
	return l
}

// small are the leaves, and arrays and objects of some things; none twice.
func small() []value.Value {
	all := leaves()
	some := []value.Value{null(), truth(true), number(1), number(11), text(""), text("a"), text("1"), text(","), listed(), record(nil), listed(null()), record(keys("a"), null())}
	for _, a := range some {
		all = append(all, listed(a), record(keys(""), a), record(keys("a"), a), record(keys("a\":null,\"b"), a))
		for _, b := range some {
			all = append(all, listed(a, b), listed(number(7), a, b), record(keys("", "a"), a, b), record(keys("a", "b"), a, b), record(keys("a", "b,"), a, b), listed(record(keys("a"), a), b, null()))
		}
	}
	return all
}

// drawn is a value that numbers lead to, of at most so many levels.
func drawn(next func(n int) int, deep int) value.Value {
	kinds := 6
	if deep == 0 {
		kinds = 4
	}
	l := words()
	switch kind := next(kinds); kind {
	case value.Bool:
		return truth(next(2) == 1)
	case value.Int:
		return number([]int64{0, 7, -1, math.MinInt64, math.MaxInt64, 123456}[next(6)])
	case value.Str:
		return text(l[next(len(l))] + l[next(len(l))])
	case value.Arr, value.Obj:
		v := value.Value{Kind: kind}
		if kind == value.Obj {
			for range next(4) {
				v.Keys = append(v.Keys, l[next(len(l))])
			}
			slices.Sort(v.Keys)
			v.Keys = slices.Compact(v.Keys)
		}
		many := len(v.Keys)
		if kind == value.Arr {
			many = next(4)
		}
		for range many {
			v.Items = append(v.Items, drawn(next, deep-1))
		}
		return v
	}
	return null()
}

// some are values that a rule of this test leads to.
func some(many int) []value.Value {
	random := rand.New(rand.NewSource(7))
	var l []value.Value
	for range many {
		l = append(l, drawn(random.Intn, 4))
	}
	return l
}

// deepest is a value of so many arrays, and objects, in one another.
func deepest(many int, leaf value.Value) value.Value {
	v := leaf
	for at := range many {
		if at%2 == 0 {
			v = listed(v)
		} else {
			v = record(keys("k"), v)
		}
	}
	return v
}

// toldQuote is a text in quotation marks, by a second reading of the chapter's words.
func toldQuote(s string) string {
	told := `"`
	for _, point := range s {
		letter, short := map[rune]string{'"': `"`, '\\': `\`, 8: "b", 12: "f", 10: "n", 13: "r", 9: "t"}[point]
		switch {
		case short:
			told += `\` + letter
		case point < 0x20:
			told += fmt.Sprintf(`\u%04x`, point)
		default:
			told += string(point)
		}
	}
	return told + `"`
}

// told is a value's text, or it in lines if by isn't below 0, by a second reading of the chapter's words.
func told(v value.Value, by, deep int) string {
	line := func(deep int) string {
		if by < 0 {
			return ""
		}
		return "\n" + strings.Repeat(" ", by*deep)
	}
	var parts []string
	for at, item := range v.Items {
		part := told(item, by, deep+1)
		if v.Kind == value.Obj {
			colon := ":"
			if by >= 0 {
				colon = ": "
			}
			part = toldQuote(v.Keys[at]) + colon + part
		}
		parts = append(parts, line(deep+1)+part)
	}
	within := strings.Join(parts, ",")
	if len(parts) > 0 {
		within += line(deep)
	}
	switch v.Kind {
	case value.Null:
		return "null"
	case value.Bool:
		return fmt.Sprint(v.Bool)
	case value.Int:
		return fmt.Sprint(v.Int)
	case value.Str:
		return toldQuote(v.Str)
	case value.Arr:
		return "[" + within + "]"
	}
	return "{" + within + "}"
}

// toldShort is the beginning of a text, by a second reading of the chapter's words.
func toldShort(s string, most int) string {
	switch {
	case len(s) <= most:
		return s
	case most < 3:
		return ""
	}
	begin := ""
	for _, point := range s {
		if len(begin)+utf8.RuneLen(point) > most-3 {
			break
		}
		begin += string(point)
	}
	return begin + "..."
}

// library is what the language's own library writes of a value.
func library(t *testing.T, v value.Value) string {
	t.Helper()
	var b bytes.Buffer
	writer := json.NewEncoder(&b)
	writer.SetEscapeHTML(false)
	if err := writer.Encode(plain(v)); err != nil {
		t.Fatal(err)
	}
	// Those two are escaped there always.
	s := strings.ReplaceAll(strings.ReplaceAll(b.String(), `\u2028`, "\u2028"), `\u2029`, "\u2029")
	return strings.TrimSuffix(s, "\n")
}

// plain is a value in the language's own things.
func plain(v value.Value) any {
	switch v.Kind {
	case value.Bool:
		return v.Bool
	case value.Int:
		return v.Int
	case value.Str:
		return v.Str
	case value.Arr:
		l := []any{}
		for _, item := range v.Items {
			l = append(l, plain(item))
		}
		return l
	case value.Obj:
		m := map[string]any{}
		for at, item := range v.Items {
			m[v.Keys[at]] = plain(item)
		}
		return m
	}
	return nil
}

// check asks all calls of a value.
func check(t *testing.T, v value.Value) {
	t.Helper()
	s := Text(v)
	if want := told(v, -1, 0); s != want {
		t.Fatalf("P7.1: Text(%+v): %q, want %q", v, s, want)
	}
	if n := Width(v); n != len(s) {
		t.Fatalf("P7.1: Width(%+v): %d, want %d", v, n, len(s))
	}
	checkRead(t, v, s)
	for _, x := range [][2]int{{-3, 0}, {0, 0}, {1, 1}, {2, 2}, {8, 8}, {9, 8}} {
		lines := Lines(v, x[0])
		if want := told(v, x[1], 0); lines != want {
			t.Fatalf("P7.1: Lines(%+v, %d): %q, want %q", v, x[0], lines, want)
		}
		checkRead(t, v, lines)
	}
	for _, most := range []int{-1, 0, 1, 2, 3, 4, 5, 6, 7, len(s) - 2, len(s) - 1, len(s), len(s) + 1} {
		checkShort(t, v, s, most)
	}
}

// checkRead reads a value's text again, if a reader takes so much.
func checkRead(t *testing.T, v value.Value, s string) {
	t.Helper()
	if v.Depth() > api.MaxDepth || len(s) > api.MaxText {
		return
	}
	if w, place, e := reader.Parse(s, v.Depth()); e != api.OK || !alike(w, v) {
		t.Fatalf("P7.2: %q is read as %+v, error %d at %d; it is written of %+v", s, w, e, place, v)
	}
}

// checkShort asks for a text's beginning.
func checkShort(t *testing.T, v value.Value, s string, most int) {
	t.Helper()
	short := Short(v, most)
	if want := toldShort(s, most); short != want {
		t.Fatalf("P7.1: Short(%+v, %d): %q, want %q", v, most, short, want)
	}
	if len(short) > max(most, 0) || !utf8.ValidString(short) {
		t.Fatalf("P7.1: Short(%+v, %d): %q", v, most, short)
	}
}

func TestTextByHand(t *testing.T) { // P7.1
	for want, v := range map[string]value.Value{
		`{"a":[1],"b":null}`: record(keys("a", "b"), listed(number(1)), null()), // the document's example
		`null`:               null(), `true`: truth(true), `false`: truth(false),
		`0`: number(0), `7`: number(7), `-1`: number(-1), `10`: number(10), `-9223372036854775808`: number(math.MinInt64), `9223372036854775807`: number(math.MaxInt64),
		`""`: text(""), `"a b"`: text("a b"), `"null"`: text("null"), `"1"`: text("1"), `"\"[1]\""`: text(`"[1]"`),
		`[]`: listed(), `{}`: record(nil), `[[]]`: listed(listed()), `[{}]`: listed(record(nil)), `[[],{},[]]`: listed(listed(), record(nil), listed()),
		`[null,false,-3,"x",[1,2]]`: listed(null(), truth(false), number(-3), text("x"), listed(number(1), number(2))),
		`{"":0}`:                    record(keys(""), number(0)),
		`{"":[],"a":{},"b":{"a":""},"c":[{"d":true}]}`:   record(keys("", "a", "b", "c"), listed(), record(nil), record(keys("a"), text("")), listed(record(keys("d"), truth(true)))),
		"{\"\\n\":1,\"\\\"\":2,\"\\\\\":3,\"\u20ac\":4}": record(keys("\n", "\"", "\\", "\u20ac"), number(1), number(2), number(3), number(4)),
	} {
		if s := Text(v); s != want || Width(v) != len(want) {
			t.Errorf("P7.1: Text(%+v): %q of width %d, want %q", v, s, Width(v), want)
		}
		check(t, v)
	}
}

func TestQuoteByHand(t *testing.T) { // P7.1
	for s, want := range map[string]string{
		"": `""`, "a": `"a"`, `"`: `"\""`, `\`: `"\\"`, `\"`: `"\\\""`, `\n`: `"\\n"`, "/": `"/"`, "'": `"'"`, "<>&": `"<>&"`,
		"\b": `"\b"`, "\f": `"\f"`, "\n": `"\n"`, "\r": `"\r"`, "\t": `"\t"`, "\v": `"\u000b"`, "\a": `"\u0007"`,
		"\x00": `"\u0000"`, "\x01": `"\u0001"`, "\x0e": `"\u000e"`, "\x0f": `"\u000f"`, "\x10": `"\u0010"`, "\x1b": `"\u001b"`, "\x1f": `"\u001f"`, " ": `" "`,
		"\x7f": "\"\x7f\"", "\u0080": "\"\u0080\"", "\u2028\u2029": "\"\u2028\u2029\"", "\ufffd": "\"\ufffd\"", "\U0001f600": "\"\U0001f600\"", "\U0010ffff": "\"\U0010ffff\"",
		"bfnrt": `"bfnrt"`, "b\bf\fn\nr\rt\t": `"b\bf\fn\nr\rt\t"`, "a\n\u20ac\x00": "\"a\\n\u20ac\\u0000\"", "\x1f1": `"\u001f1"`,
	} {
		if q := Quote(s); q != want {
			t.Errorf("P7.1: Quote(%q): %s, want %s", s, q, want)
		}
		if q := Text(text(s)); q != want {
			t.Errorf("P7.1: Text of %q: %s, want %s", s, q, want)
		}
		if q := Text(record(keys(s), null())); q != "{"+want+":null}" {
			t.Errorf("P7.1: Text of an object of the key %q: %s", s, q)
		}
		check(t, text(s))
	}
}

// TestQuoteOfEachPoint quotes each point, and each one below 0x80 between all others.
func TestQuoteOfEachPoint(t *testing.T) { // P7.1, P7.2
	for point := rune(0); point <= utf8.MaxRune; point++ {
		if !utf8.ValidRune(point) {
			continue
		}
		s := "<" + string(point) + ">"
		if q, want := Quote(s), toldQuote(s); q != want {
			t.Fatalf("P7.1: Quote(%q): %s, want %s", s, q, want)
		}
		if point < 0x3000 {
			checkRead(t, text(s), Quote(s))
		}
	}
	for a := range rune(0x80) {
		for b := range rune(0x80) {
			s := string([]rune{a, b, a})
			if q, want := Quote(s), toldQuote(s); q != want {
				t.Fatalf("P7.1: Quote(%q): %s, want %s", s, q, want)
			}
		}
	}
}

// TestQuoteOfTexts quotes all texts of up to three of some pieces, and holds them against the library's.
func TestQuoteOfTexts(t *testing.T) { // P7.1, P7.2 and P7.3
	pieces := []string{"a", "n", "u", "0", `"`, `\`, "/", "\n", "\x00", "\x1f", "\x7f", "\u00e9", "\u2028", "\U0001f600"}
	l := []string{""}
	for from := 0; len(l[len(l)-1]) == 0 || len(l) < 1+14+14*14+14*14*14; from++ {
		for _, piece := range pieces {
			l = append(l, l[from]+piece)
		}
	}
	from := map[string]string{}
	for _, s := range l {
		q := Quote(s)
		if want := library(t, text(s)); q != want || q != toldQuote(s) {
			t.Fatalf("P7.1: Quote(%q): %s, want %s", s, q, want)
		}
		checkRead(t, text(s), q)
		if other, twice := from[q]; twice && other != s {
			t.Fatalf("P7.3: %q and %q are %s both", s, other, q)
		}
		from[q] = s
	}
	if len(from) != 1+14+14*14+14*14*14 {
		t.Fatalf("%d texts", len(from))
	}
}

func TestLinesByHand(t *testing.T) { // P7.1
	v := record(keys("a", "b", "c"), listed(number(1), listed(), listed(text("x, y: [z]"))), null(), record(keys("d", "e"), record(nil), truth(true)))
	two := `{
  "a": [
    1,
    [],
    [
      "x, y: [z]"
    ]
  ],
  "b": null,
  "c": {
    "d": {},
    "e": true
  }
}`
	one := strings.ReplaceAll(two, "  ", " ")
	for by := -3; by <= 12; by++ {
		want := strings.ReplaceAll(two, "  ", strings.Repeat(" ", min(max(by, 0), 8)))
		if s := Lines(v, by); s != want {
			t.Errorf("P7.1: Lines by %d: %s, want %s", by, s, want)
		}
	}
	for _, x := range []struct {
		v    value.Value
		by   int
		want string
	}{
		{v, 1, one}, {v, 2, two},
		{null(), 2, "null"}, {truth(true), 2, "true"}, {number(-5), 2, "-5"}, {text("a:b,c\n"), 2, `"a:b,c\n"`}, {listed(), 2, "[]"}, {record(nil), 2, "{}"},
		{listed(number(1)), 2, "[\n  1\n]"}, {listed(number(1)), 0, "[\n1\n]"}, {listed(number(1)), -1, "[\n1\n]"}, {listed(number(1)), math.MinInt, "[\n1\n]"},
		{listed(number(1)), 7, "[\n       1\n]"}, {listed(number(1)), 8, "[\n        1\n]"}, {listed(number(1)), 9, "[\n        1\n]"}, {listed(number(1)), math.MaxInt, "[\n        1\n]"},
		{listed(number(1), number(2), number(3)), 1, "[\n 1,\n 2,\n 3\n]"},
		{record(keys("a"), number(1)), 3, "{\n   \"a\": 1\n}"}, {record(keys("a", "b"), number(1), listed()), 0, "{\n\"a\": 1,\n\"b\": []\n}"},
		{listed(listed(listed(null()))), 1, "[\n [\n  [\n   null\n  ]\n ]\n]"},
		{listed(listed(listed(null()))), -6148914691236517205, "[\n[\n[\nnull\n]\n]\n]"}, // three times that wraps round to 1
		{listed(listed(), record(nil)), 1, "[\n [],\n {}\n]"},
		{listed(record(keys("a:"), text(": ,"))), 2, "[\n  {\n    \"a:\": \": ,\"\n  }\n]"},
	} {
		if s := Lines(x.v, x.by); s != x.want {
			t.Errorf("P7.1: Lines(%+v, %d): %s, want %s", x.v, x.by, s, x.want)
		}
		check(t, x.v)
	}
}

func TestShortByHand(t *testing.T) { // P7.1
	euro := text("a\u20acb\U0001f600c") // of 12 bytes, with its marks
	for _, x := range []struct {
		v    value.Value
		most int
		want string
	}{
		// What has at most so many bytes is whole, be there ever so few.
		{number(7), 1, "7"}, {number(12), 2, "12"}, {listed(), 2, "[]"}, {text(""), 2, `""`}, {text("a"), 3, `"a"`}, {null(), 4, "null"}, {truth(false), 5, "false"}, {number(-12), 100, "-12"}, {null(), math.MaxInt, "null"},
		// Else the dots are of the bytes, too; where they have no room nothing stands.
		{number(7), 0, ""}, {number(7), -1, ""}, {number(7), math.MinInt, ""}, {number(12), 1, ""}, {number(123), 2, ""}, {number(1234), 2, ""}, {number(1234), 3, "..."}, {number(12345), 4, "1..."}, {null(), 3, "..."}, {null(), 2, ""}, {null(), 0, ""},
		{truth(false), 4, "f..."}, {truth(true), 4, "true"}, {truth(true), 3, "..."}, {number(math.MinInt64), 19, "-922337203685477..."}, {number(math.MinInt64), 20, "-9223372036854775808"},
		{listed(number(1), number(2), number(3)), 7, "[1,2,3]"}, {listed(number(1), number(2), number(3)), 6, "[1,..."}, {record(keys("key"), null()), 10, `{"key":...`}, {record(keys("key"), null()), 12, `{"key":null}`},
		// No point is parted.
		{euro, 3, "..."}, {euro, 4, `"...`}, {euro, 5, `"a...`}, {euro, 6, `"a...`}, {euro, 7, `"a...`}, {euro, 8, "\"a\u20ac..."}, {euro, 9, "\"a\u20acb..."}, {euro, 10, "\"a\u20acb..."}, {euro, 11, "\"a\u20acb..."}, {euro, 12, "\"a\u20acb\U0001f600c\""},
		{text("\U0001f600\U0001f600"), 7, "\"..."}, {text("\U0001f600\U0001f600"), 8, "\"\U0001f600..."}, {text("\U0001f600\U0001f600"), 9, "\"\U0001f600..."}, {text("\U0001f600\U0001f600"), 10, "\"\U0001f600\U0001f600\""},
		{text("e\u0301e\u0301"), 6, `"e...`}, {text("e\u0301e\u0301"), 7, "\"e\u0301..."},
		// An escape is some points.
		{text("\n\n\n"), 5, `"\...`}, {text("\n\n\n"), 6, `"\n...`}, {text("\x00"), 7, `"\u0...`}, {text("\x00"), 8, `"\u0000"`},
	} {
		if s := Short(x.v, x.most); s != x.want {
			t.Errorf("P7.1: Short(%+v, %d): %q, want %q", x.v, x.most, s, x.want)
		}
	}
}

// TestShortOfAll asks for each text's beginning of every number of bytes.
func TestShortOfAll(t *testing.T) { // P7.1
	for _, l := range [][]value.Value{small(), some(300)} {
		for _, v := range l {
			s := Text(v)
			for most := -2; most <= len(s)+2; most++ {
				checkShort(t, v, s, most)
			}
		}
	}
}

func TestAgainstWords(t *testing.T) { // P7.1 and P7.2
	for _, l := range [][]value.Value{small(), some(3000)} {
		for _, v := range l {
			check(t, v)
		}
	}
}

// TestAgainstLibrary holds texts, and them in lines, against the library's.
func TestAgainstLibrary(t *testing.T) { // P7.1 and P7.2
	for _, l := range [][]value.Value{small(), some(2000)} {
		for _, v := range l {
			want := library(t, v)
			if s := Text(v); s != want {
				t.Fatalf("P7.1: Text(%+v): %s, want %s", v, s, want)
			}
			for by := range 9 {
				var b bytes.Buffer
				if err := json.Indent(&b, []byte(want), "", strings.Repeat(" ", by)); err != nil {
					t.Fatal(err)
				}
				if s := Lines(v, by); s != b.String() {
					t.Fatalf("P7.1: Lines(%+v, %d): %s, want %s", v, by, s, b.String())
				}
			}
		}
	}
}

// TestUnlike holds each value's text, and it in lines, against all others'.
func TestUnlike(t *testing.T) { // P7.3
	for _, write := range []func(v value.Value) string{Text, func(v value.Value) string { return Lines(v, 2) }, func(v value.Value) string { return Lines(v, 0) }} {
		from := map[string]value.Value{}
		for _, v := range small() {
			s := write(v)
			if other, twice := from[s]; twice {
				t.Fatalf("P7.3: %+v and %+v are %s both", v, other, s)
			}
			from[s] = v
		}
		for _, v := range some(5000) {
			s := write(v)
			if other, twice := from[s]; twice && !alike(v, other) {
				t.Fatalf("P7.3: %+v and %+v are %s both", v, other, s)
			}
			from[s] = v
		}
	}
}

func TestEmptyLists(t *testing.T) { // R5
	for want, kind := range map[string]int{"null": value.Null, "false": value.Bool, "0": value.Int, `""`: value.Str, "[]": value.Arr, "{}": value.Obj} {
		v := value.Value{Kind: kind, Items: []value.Value{}, Keys: []string{}}
		if s, lines := Text(v), Lines(v, 2); s != want || lines != want {
			t.Errorf("R5: of kind %d: %q, %q", kind, s, lines)
		}
	}
}

// frozen is a value as a text, by which it is seen whether it was changed, spare room too.
func frozen(v value.Value) string {
	s := fmt.Sprintf("%d %t %d %q (", v.Kind, v.Bool, v.Int, v.Str)
	for _, key := range v.Keys[:cap(v.Keys)] {
		s += strconv.Quote(key) + ","
	}
	s += ")["
	for _, item := range v.Items[:cap(v.Items)] {
		s += frozen(item) + ","
	}
	return s + "]"
}

func TestNothingIsChanged(t *testing.T) { // P8: R6
	for _, v := range some(200) {
		v.Items = slices.Grow(v.Items, 3)
		v.Keys = slices.Grow(v.Keys, 3)
		for at := range v.Items[:cap(v.Items)][len(v.Items):] {
			v.Items[:cap(v.Items)][len(v.Items)+at] = text("spare")
		}
		for at := range v.Keys[:cap(v.Keys)][len(v.Keys):] {
			v.Keys[:cap(v.Keys)][len(v.Keys)+at] = "spare"
		}
		before := frozen(v)
		check(t, v)
		if frozen(v) != before {
			t.Fatalf("R6: changed: %s, was %s", frozen(v), before)
		}
	}
}

func TestAgain(t *testing.T) { // P8: R8
	l := some(300)
	var first []string
	for _, v := range l {
		first = append(first, Text(v)+Lines(v, 3)+Short(v, 9)+Quote(v.Str)+strconv.Itoa(Width(v)))
	}
	slices.Reverse(l)
	for at, v := range l {
		again := Short(v, 9)
		again = Text(v) + Lines(v, 3) + again + Quote(v.Str) + strconv.Itoa(Width(v))
		if want := first[len(first)-1-at]; again != want {
			t.Fatalf("R8: %+v: %q, and earlier %q", v, again, want)
		}
	}
}

func TestMuch(t *testing.T) { // P7
	deep := deepest(1<<16, number(1))
	want := strings.Repeat(`{"k":[`, 1<<15) + "1" + strings.Repeat("]}", 1<<15)
	if s := Text(deep); s != want || Width(deep) != len(want) {
		t.Errorf("P7.1: what is deep has a text of %d bytes, a width of %d; want %d", len(s), Width(deep), len(want))
	}
	if s := Short(deep, 10); s != `{"k":[{...` {
		t.Errorf("P7.1: what is deep, in short: %q", s)
	}
	if s := Lines(deep, 0); strings.ReplaceAll(strings.ReplaceAll(s, "\n", ""), " ", "") != want || strings.Count(s, "\n") != 1<<17 {
		t.Errorf("P7.1: what is deep has %d bytes in lines", len(s))
	}
	for _, by := range []int{1, 8} {
		if s := Lines(deepest(300, number(1)), by); s != told(deepest(300, number(1)), by, 0) {
			t.Errorf("P7.1: what is deep has %d bytes in lines by %d", len(s), by)
		}
	}
	long := strings.Repeat("a\n\u20ac", 1<<20)
	if s := Quote(long); s != `"`+strings.Repeat("a\\n\u20ac", 1<<20)+`"` {
		t.Errorf("P7.1: what is long is quoted by %d bytes", len(s))
	}
	wide := listed(slices.Repeat([]value.Value{number(-5)}, 1<<20)...)
	if n := Width(wide); n != 3<<20+1 {
		t.Errorf("P7.1: what is wide has a width of %d", n)
	}
	if s := Lines(wide, 1); s != "["+strings.Repeat("\n -5,", 1<<20-1)+"\n -5\n]" {
		t.Errorf("P7.1: what is wide has %d bytes in lines", len(s))
	}
}

// TestOfNoValues: of such nothing is promised, but that the calls end, and don't panic.
func TestOfNoValues(t *testing.T) { // P7
	for _, v := range []value.Value{
		{Kind: -1}, {Kind: 6}, {Kind: math.MinInt}, {Kind: math.MaxInt}, {Kind: value.Null, Items: []value.Value{{}}},
		record(nil, null()), record(keys("a"), null(), null()), record(keys("a", "b"), null()), record(keys("a")), record(keys("b", "a"), null(), null()), record(keys("a", "a"), null(), null()), record(keys("\xff"), null()),
		{Kind: value.Arr, Keys: keys("a"), Items: []value.Value{{}}}, {Kind: value.Arr, Keys: keys("a")},
		text("\xff"), text("\x80\x80\x80\x80\x80\x80\x80"), text("a\xed\xa0\x80b"), text("\xf0\x9f\x98"), text("\xe2\x82\n"),
	} {
		for most := -1; most < 20; most++ {
			for _, w := range []value.Value{v, listed(v, v), record(keys("k"), v)} {
				s := Text(w)
				if short := Short(w, most); len(s) > most && len(short) > max(most, 0) {
					t.Errorf("P7: Short(%+v, %d): %q", w, most, short)
				}
				Lines(w, most)
				Width(w)
				Quote(w.Str)
			}
		}
	}
}

func FuzzValues(f *testing.F) {
	for _, s := range words() {
		f.Add([]byte(s), s)
	}
	f.Add([]byte{4, 3, 5, 3, 1, 2, 3, 4, 4, 4, 4, 4, 4, 4, 1, 1, 1, 1, 1, 2, 2, 2, 2, 2}, "a")
	f.Fuzz(func(t *testing.T, by []byte, s string) {
		if !utf8.ValidString(s) {
			s = strings.ToValidUTF8(s, "?")
		}
		at := 0
		next := func(n int) int {
			at++
			if at > len(by) {
				return 0
			}
			return int(by[at-1]) % n
		}
		v := drawn(next, 6)
		check(t, v)
		check(t, text(s))
		check(t, listed(v, record(keys(s), v)))
		if q := Quote(s); q != library(t, text(s)) {
			t.Fatalf("P7.1: Quote(%q): %s", s, q)
		}
	})
}
