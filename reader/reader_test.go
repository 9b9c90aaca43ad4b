package reader

import (
	"encoding/json"
	"fmt"
	"math"
	"math/rand"
	"reflect"
	"slices"
	"strconv"
	"strings"
	"testing"

	"cheval/api"
	"cheval/token"
	"cheval/value"
)

// The samples are written field by field, so that they don't hang on the calls of another package.

func null() value.Value                   { return value.Value{Kind: value.Null} }
func truth(b bool) value.Value            { return value.Value{Kind: value.Bool, Bool: b} }
func number(n int64) value.Value          { return value.Value{Kind: value.Int, Int: n} }
func text(s string) value.Value           { return value.Value{Kind: value.Str, Str: s} }
func listed(l ...value.Value) value.Value { return value.Value{Kind: value.Arr, Items: l} }
func keys(l ...string) []string           { return l }

// record has the keys, which must be rising, and an item for each.
func record(keys []string, items ...value.Value) value.Value {
	return value.Value{Kind: value.Obj, Keys: keys, Items: items}
}

// alike: are all fields the same? Of a list it doesn't matter whether it is nil or empty.
func alike(a, b value.Value) bool {
	return a.Kind == b.Kind && a.Bool == b.Bool && a.Int == b.Int && a.Str == b.Str &&
		slices.Equal(a.Keys, b.Keys) && slices.EqualFunc(a.Items, b.Items, alike)
}

// The states: what may come next.
const (
	atValue = iota
	atValueOrEnd
	atKey
	atKeyOrEnd
	atColon
	behindItem
	behindMember
	behindAll
)

// told is where the words of the chapter find the first error: a machine with a stack tells it.
func told(s string, depth int) (int, api.Errno) {
	if depth < 0 || depth > 64 {
		return 0, api.ErrRange
	}
	if len(s) > 16384 {
		return 0, api.ErrLong
	}
	var within []map[string]bool // of each array or object that is open its keys; nil of an array
	behind := func() int {
		switch {
		case len(within) == 0:
			return behindAll
		case within[len(within)-1] == nil:
			return behindItem
		}
		return behindMember
	}
	state := atValue
	for l := token.New(s); ; {
		t, place, e := l.Next()
		if e != api.OK {
			return place, e
		}
		kind := strings.TrimSpace(fmt.Sprint([]string{"end", "", "str", "num", "true", "false", "null"}[t.Kind], t.Text))
		if t.Kind == token.Str {
			kind = "str"
		}
		free := state == atValue || state == atValueOrEnd
		switch {
		case state == behindAll && kind == "end":
			return 0, api.OK
		case (state == atKey || state == atKeyOrEnd) && kind == "str":
			if within[len(within)-1][t.Text] {
				return t.At, api.ErrTwice
			}
			within[len(within)-1][t.Text] = true
			state = atColon
		case free && slices.Contains([]string{"str", "num", "true", "false", "null"}, kind):
			state = behind()
		case free && (kind == "[" || kind == "{") && len(within) == depth:
			return t.At, api.ErrDeep
		case free && kind == "[":
			within, state = append(within, nil), atValueOrEnd
		case free && kind == "{":
			within, state = append(within, map[string]bool{}), atKeyOrEnd
		case (state == atValueOrEnd || state == behindItem) && kind == "]",
			(state == atKeyOrEnd || state == behindMember) && kind == "}":
			within = within[:len(within)-1]
			state = behind()
		case state == behindItem && kind == ",":
			state = atValue
		case state == behindMember && kind == ",":
			state = atKey
		case state == atColon && kind == ":":
			state = atValue
		default:
			return t.At, api.ErrForm
		}
	}
}

// toldValue is what the library reads a text as.
func toldValue(t *testing.T, s string) value.Value {
	t.Helper()
	d := json.NewDecoder(strings.NewReader(s))
	d.UseNumber()
	var x any
	if err := d.Decode(&x); err != nil {
		t.Fatalf("%q is none to the library: %v", s, err)
	}
	return fromLibrary(x)
}

func fromLibrary(x any) value.Value {
	switch y := x.(type) {
	case bool:
		return truth(y)
	case json.Number:
		n, err := strconv.ParseInt(string(y), 10, 64)
		if err != nil {
			panic(err)
		}
		return number(n)
	case string:
		return text(y)
	case []any:
		v := listed()
		for _, item := range y {
			v.Items = append(v.Items, fromLibrary(item))
		}
		return v
	case map[string]any:
		v := record(nil)
		for key := range y {
			v.Keys = append(v.Keys, key)
		}
		slices.Sort(v.Keys)
		for _, key := range v.Keys {
			v.Items = append(v.Items, fromLibrary(y[key]))
		}
		return v
	}
	return null()
}

// checkValue: does a text have that value?
func checkValue(t *testing.T, s string, depth int, want value.Value) {
	t.Helper()
	v, place, e := Parse(s, depth)
	if !alike(v, want) || place != 0 || e != api.OK {
		t.Errorf("Parse(%.300q, %d): %+v, %d, %d; want %+v", s, depth, v, place, e, want)
	}
	if !v.Good() {
		t.Errorf("Parse(%.300q, %d): %+v is no good value", s, depth, v)
	}
	if !Fits(s, depth) {
		t.Errorf("Fits(%.300q, %d): false", s, depth)
	}
}

// checkError: has a text that error, at that place?
func checkError(t *testing.T, s string, depth, place int, want api.Errno) {
	t.Helper()
	v, at, e := Parse(s, depth)
	if at != place || e != want {
		t.Errorf("Parse(%.300q, %d): place %d, error %d; want %d, %d", s, depth, at, e, place, want)
	}
	if !reflect.DeepEqual(v, value.Value{}) {
		t.Errorf("Parse(%.300q, %d): %+v beside an error", s, depth, v)
	}
	if Fits(s, depth) {
		t.Errorf("Fits(%.300q, %d): true", s, depth)
	}
}

// checkText: does a text have just what the words tell?
func checkText(t *testing.T, s string, depth int) {
	t.Helper()
	place, e := told(s, depth)
	if e != api.OK {
		checkError(t, s, depth, place, e)
		return
	}
	checkValue(t, s, depth, toldValue(t, s))
}

func TestValues(t *testing.T) { // P6.1
	for s, want := range map[string]value.Value{
		"null":                                null(),
		"true":                                truth(true),
		"false":                               truth(false),
		"0":                                   number(0),
		"-0":                                  number(0),
		"-12":                                 number(-12),
		"9223372036854775807":                 number(math.MaxInt64),
		"-9223372036854775808":                number(math.MinInt64),
		`""`:                                  text(""),
		`"a"`:                                 text("a"),
		`"\u0061\n\/\uD83D\uDE00"`:            text("a\n/\U0001F600"),
		`"[1]"`:                               text("[1]"),
		`"null"`:                              text("null"),
		"[]":                                  listed(),
		"{}":                                  record(nil),
		"[{}]":                                listed(record(nil)),
		"[[]]":                                listed(listed()),
		"[[],[]]":                             listed(listed(), listed()),
		"[1]":                                 listed(number(1)),
		"[1,1]":                               listed(number(1), number(1)),
		"[2,1,3]":                             listed(number(2), number(1), number(3)),
		`[null,true,false,-1,"",[],{}]`:       listed(null(), truth(true), truth(false), number(-1), text(""), listed(), record(nil)),
		`["",""]`:                             listed(text(""), text("")),
		`["[","]",",",":","{","}"]`:           listed(text("["), text("]"), text(","), text(":"), text("{"), text("}")),
		`{"a":1}`:                             record(keys("a"), number(1)),
		`{"":{"":{}}}`:                        record(keys(""), record(keys(""), record(nil))),
		`{"b": 1, "a": []}`:                   record(keys("a", "b"), listed(), number(1)),
		`{"c":1,"a":2,"b":3}`:                 record(keys("a", "b", "c"), number(2), number(3), number(1)),
		`{"b":1,"B":2,"":3,"aa":4,"a":5}`:     record(keys("", "B", "a", "aa", "b"), number(3), number(2), number(5), number(4), number(1)),
		`{"\uFFFD":1,"\uD83D\uDE00":2,"z":3}`: record(keys("z", "\uFFFD", "\U0001F600"), number(3), number(1), number(2)),
		`{"\u0000":0,"\n":1,"":2}`:            record(keys("", "\x00", "\n"), number(2), number(0), number(1)),
		`{"a":{"a":1},"b":{"a":{"a":2}}}`:     record(keys("a", "b"), record(keys("a"), number(1)), record(keys("a"), record(keys("a"), number(2)))),
		`[{"a":1},{"a":2}]`:                   listed(record(keys("a"), number(1)), record(keys("a"), number(2))),
		`{"a":"a"}`:                           record(keys("a"), text("a")),
		`{"a":"b","b":"a"}`:                   record(keys("a", "b"), text("b"), text("a")),
		`{"e":null,"d":true,"c":"x","b":[1],"a":{"z":0,"y":1}}`: record(keys("a", "b", "c", "d", "e"),
			record(keys("y", "z"), number(1), number(0)), listed(number(1)), text("x"), truth(true), null()),
		" \t\n\r[ \t\n\r1 \t\n\r, \t\n\r2 \t\n\r] \t\n\r":                     listed(number(1), number(2)),
		" { \"b\"\n:\r1\t,  \"a\" : { } } ":                                   record(keys("a", "b"), record(nil), number(1)),
		"\"\x7f\u0085\u2028\"":                                                text("\x7f\u0085\u2028"),
		`[[1,[2,[3]],4],[[5]]]`:                                               listed(listed(number(1), listed(number(2), listed(number(3))), number(4)), listed(listed(number(5)))),
		`{"10":0,"9":1,"1":2,"01":3}`:                                         record(keys("01", "1", "10", "9"), number(3), number(2), number(0), number(1)),
		`{"__proto__":1,"length":2}`:                                          record(keys("__proto__", "length"), number(1), number(2)),
		"{\"\u00e9\":1,\"e\u0301\":2}":                                        record(keys("e\u0301", "\u00e9"), number(2), number(1)),
		`{"a":[{"b":[{"c":[]}]}]}`:                                            record(keys("a"), listed(record(keys("b"), listed(record(keys("c"), listed()))))),
		`[` + strings.Repeat("0,", 999) + `0]`:                                listed(slices.Repeat([]value.Value{number(0)}, 1000)...),
		strings.Repeat(" ", api.MaxText-4) + "null":                           null(),
		"1" + strings.Repeat("\n", api.MaxText-1):                             number(1),
		`"` + strings.Repeat("a", api.MaxText-2) + `"`:                        text(strings.Repeat("a", api.MaxText-2)),
		"[" + strings.Repeat("\t", api.MaxText-2) + "]":                       listed(),
		`{"` + strings.Repeat("k", api.MaxText-6) + `":1}`:                    record(keys(strings.Repeat("k", api.MaxText-6)), number(1)),
		strings.Repeat("[", api.MaxDepth) + strings.Repeat("]", api.MaxDepth): nested(api.MaxDepth),
	} {
		checkValue(t, s, api.MaxDepth, want)
		checkText(t, s, api.MaxDepth)
	}
}

// nested are so many arrays in one another.
func nested(many int) value.Value {
	v := listed()
	for range many - 1 {
		v = listed(v)
	}
	return v
}

func TestErrors(t *testing.T) { // P6.1
	for s, x := range map[string]struct {
		place int
		e     api.Errno
	}{
		// Nothing, and too much.
		"": {0, api.ErrForm}, " \t\n\r": {4, api.ErrForm}, "1 2": {2, api.ErrForm}, "01": {1, api.ErrForm}, "null null": {5, api.ErrForm}, "[][]": {2, api.ErrForm}, "{} {}": {3, api.ErrForm}, `"a""b"`: {3, api.ErrForm}, "1,": {1, api.ErrForm}, "1,2": {1, api.ErrForm}, `"a":1`: {3, api.ErrForm}, "[]]": {2, api.ErrForm}, "{}}": {2, api.ErrForm}, "nulltrue": {4, api.ErrForm}, "[] x": {3, api.ErrForm}, "1x": {1, api.ErrForm}, "1\x00": {1, api.ErrForm}, "1\"": {2, api.ErrForm}, "null\x0b": {4, api.ErrForm},
		// What can't be a value.
		"]": {0, api.ErrForm}, " }": {1, api.ErrForm}, ",": {0, api.ErrForm}, ":": {0, api.ErrForm}, "x": {0, api.ErrForm}, "\ufeff1": {0, api.ErrForm}, "\u00a01": {0, api.ErrForm}, "'a'": {0, api.ErrForm}, "// 1": {0, api.ErrForm}, "NaN": {0, api.ErrForm}, "Infinity": {0, api.ErrForm}, "-Infinity": {1, api.ErrForm}, "+1": {0, api.ErrForm}, ".5": {0, api.ErrForm}, "undefined": {0, api.ErrForm}, "True": {0, api.ErrForm},
		// Arrays.
		"[": {1, api.ErrForm}, "[ ": {2, api.ErrForm}, "[1": {2, api.ErrForm}, "[1 ": {3, api.ErrForm}, "[1,": {3, api.ErrForm}, "[1,]": {3, api.ErrForm}, "[1, ]": {4, api.ErrForm}, "[,]": {1, api.ErrForm}, "[,1]": {1, api.ErrForm}, "[1,,2]": {3, api.ErrForm}, "[1 2]": {3, api.ErrForm}, "[1:2]": {2, api.ErrForm}, "[:]": {1, api.ErrForm}, "[}": {1, api.ErrForm}, "[1}": {2, api.ErrForm}, "[1,}": {3, api.ErrForm}, "[[]": {3, api.ErrForm}, "[[1]2]": {4, api.ErrForm}, `["a":1]`: {4, api.ErrForm}, "[1]]": {3, api.ErrForm}, "[[1],": {5, api.ErrForm}, "[\"a\" \"b\"]": {5, api.ErrForm}, "[[}]": {2, api.ErrForm}, "[{]": {2, api.ErrForm}, "[true false]": {6, api.ErrForm}, "[[] []]": {4, api.ErrForm},
		// Objects.
		"{": {1, api.ErrForm}, "{ ": {2, api.ErrForm}, "{,}": {1, api.ErrForm}, "{:1}": {1, api.ErrForm}, "{]": {1, api.ErrForm}, "{1:2}": {1, api.ErrForm}, "{null:1}": {1, api.ErrForm}, "{true:1}": {1, api.ErrForm}, "{[]:1}": {1, api.ErrForm}, "{{}:1}": {1, api.ErrForm}, `{"a"`: {4, api.ErrForm}, `{"a" `: {5, api.ErrForm}, `{"a"}`: {4, api.ErrForm}, `{"a",`: {4, api.ErrForm}, `{"a" "b"`: {5, api.ErrForm}, `{"a"1`: {4, api.ErrForm}, `{"a":`: {5, api.ErrForm}, `{"a":}`: {5, api.ErrForm}, `{"a":,`: {5, api.ErrForm}, `{"a"::1}`: {5, api.ErrForm}, `{"a":]`: {5, api.ErrForm}, `{"a":1`: {6, api.ErrForm}, `{"a":1]`: {6, api.ErrForm}, `{"a":1:`: {6, api.ErrForm}, `{"a":1 2`: {7, api.ErrForm}, `{"a":1 "b":2}`: {7, api.ErrForm}, `{"a":1,`: {7, api.ErrForm}, `{"a":1,}`: {7, api.ErrForm}, `{"a":1,,`: {7, api.ErrForm}, `{"a":1,2`: {7, api.ErrForm}, `{"a":1,"b"}`: {10, api.ErrForm}, `{"a":1,"b":}`: {11, api.ErrForm}, `{"a":[1}`: {7, api.ErrForm}, `{"a":{"b":1]}`: {11, api.ErrForm}, `{a:1}`: {1, api.ErrForm}, `{"a"=1}`: {4, api.ErrForm}, `{"a":1,]`: {7, api.ErrForm}, `{"a":1,:`: {7, api.ErrForm}, `{"a":[`: {6, api.ErrForm}, `{"a":1};`: {7, api.ErrForm}, `{"a":1}1`: {7, api.ErrForm},
		// Strings that say a sign are none.
		`[1"]"`: {2, api.ErrForm}, `[1 "]"]`: {3, api.ErrForm}, `["]"`: {4, api.ErrForm}, `[1","2]`: {2, api.ErrForm}, `{"a":1"}"`: {6, api.ErrForm}, `{"}"`: {4, api.ErrForm}, `{"a"":"1}`: {4, api.ErrForm}, `{"a":1","b":2}`: {6, api.ErrForm}, `{"a":"["1]}`: {8, api.ErrForm}, `"["]`: {3, api.ErrForm}, `"{"}`: {3, api.ErrForm},
		// Where there is no token.
		"[1,x]": {3, api.ErrForm}, "[tru]": {4, api.ErrForm}, "[1.]": {3, api.ErrForm}, "[-]": {2, api.ErrForm}, `["a`: {3, api.ErrForm}, `["\x"]`: {3, api.ErrForm}, "[\"\n\"]": {2, api.ErrForm}, "[\"\xff\"]": {2, api.ErrUTF}, `["\ud800"]`: {2, api.ErrLone}, "[1.5]": {1, api.ErrNumber}, "[1e5]": {1, api.ErrNumber}, "[1,9223372036854775808]": {3, api.ErrNumber}, "1.0": {0, api.ErrNumber}, "\"\xff": {1, api.ErrUTF}, "1 \xff": {2, api.ErrForm}, "{x": {1, api.ErrForm}, "{\"a": {3, api.ErrForm}, "{\"\xff\":1}": {2, api.ErrUTF}, `{"\uDC00":1}`: {2, api.ErrLone}, `{"a":1.5}`: {5, api.ErrNumber}, `{"a":tru}`: {8, api.ErrForm}, `{"a"x`: {4, api.ErrForm}, `{"a":1,x`: {7, api.ErrForm}, `{"a":1x`: {6, api.ErrForm}, "[1x": {2, api.ErrForm}, "[x": {1, api.ErrForm},
		// A token is there just when it is whole, wherever it might stand.
		"{1.5": {1, api.ErrNumber}, "{1.x": {3, api.ErrForm}, "{\"a\" 1.5": {5, api.ErrNumber}, "1 1.5": {2, api.ErrNumber}, "1 \"\xff": {3, api.ErrUTF}, "[1 tru": {6, api.ErrForm}, `{"a" "\ud800`: {6, api.ErrLone}, `{"a":1 "b`: {9, api.ErrForm}, "[1 2.5]": {3, api.ErrNumber}, `{"a":1,9223372036854775808`: {7, api.ErrNumber}, "[] nul": {6, api.ErrForm},
		// Keys that are there already.
		`{"a":1,"a":2}`: {7, api.ErrTwice}, `{"a":1,"a"`: {7, api.ErrTwice}, `{"a":1,"a"}`: {7, api.ErrTwice}, `{"a":1,"a"x`: {7, api.ErrTwice}, `{"a":1, "a":1}`: {8, api.ErrTwice}, `{"a":1,"\u0061":2}`: {7, api.ErrTwice}, `{"\u0061":1,"a":2}`: {12, api.ErrTwice}, `{"":1,"":2}`: {6, api.ErrTwice}, `{"a":1,"b":2,"a":3}`: {13, api.ErrTwice}, `{"b":1,"a":2,"b":3,"a":4}`: {13, api.ErrTwice}, `{"a":{"a":1,"a":2}}`: {12, api.ErrTwice}, `{"a":{"b":1},"a":2}`: {13, api.ErrTwice}, `[{"a":1,"a":2}]`: {8, api.ErrTwice}, `{"\uD83D\uDE00":1,"` + "\U0001F600" + `":2}`: {18, api.ErrTwice}, `{"/":1,"\/":2}`: {7, api.ErrTwice}, `{"a":null,"a":null}`: {10, api.ErrTwice}, `{"a":1,"a`: {9, api.ErrForm}, "{\"a\":1,\"a\xff\"": {9, api.ErrUTF}, `{"a":1,"a\ud800"`: {9, api.ErrLone}, `{"a":1,"b":"a","a"`: {15, api.ErrTwice}, `{"a":[],"a":[`: {8, api.ErrTwice},
	} {
		checkError(t, s, api.MaxDepth, x.place, x.e)
		checkText(t, s, api.MaxDepth)
	}
}

func TestSameKeysElsewhere(t *testing.T) { // P6.1
	for _, s := range []string{
		`{"a":1,"A":2,"a ":3," a":4,"":5,"aa":6,"\u0000a":7}`,
		`{"a":{"a":{"a":1}}}`,
		`{"a":"a","b":"a","c":"b"}`,
		`[{"a":1},{"a":1},{"a":1}]`,
		`{"x":{"a":1},"y":{"a":1},"a":{"x":1,"y":1}}`,
		`{"a":[{"a":1},{"a":1,"b":{"b":1}}],"b":1}`,
		"{\"\u00e9\":1,\"e\u0301\":1,\"\uff25\":1}",
	} {
		checkValue(t, s, api.MaxDepth, toldValue(t, s))
	}
}

// opened are so many arrays and objects in one another, as a pattern's signs say, around what stands in them; and the places where they begin.
func opened(pattern string, many int, inner string) (string, []int) {
	var open, shut string
	var places []int
	for at := range many {
		places = append(places, len(open))
		if pattern[at%len(pattern)] == '[' {
			open, shut = open+"[", "]"+shut
		} else {
			open, shut = open+`{"k": `, "}"+shut
		}
	}
	return open + inner + shut, places
}

func TestDepths(t *testing.T) { // P6.1
	for _, pattern := range []string{"[", "{", "[{", "{[", "[[{"} {
		for _, inner := range []string{"1", "null", `"[[[["`, "[]", "{}"} {
			for many := range api.MaxDepth + 3 {
				s, places := opened(pattern, many, inner)
				if inner == "[]" || inner == "{}" {
					places = append(places, strings.LastIndex(s, inner))
				}
				for _, depth := range []int{0, 1, 2, 3, many - 1, many, many + 1, 31, 32, 63, 64} {
					if depth < 0 || api.MaxDepth < depth {
						continue
					}
					if depth < len(places) {
						checkError(t, s, depth, places[depth], api.ErrDeep)
					} else {
						checkValue(t, s, depth, toldValue(t, s))
					}
				}
			}
		}
	}
}

func TestDepthsBesideOneAnother(t *testing.T) { // P6.1
	checkValue(t, "[[],[],{},[]]", 2, listed(listed(), listed(), record(nil), listed()))
	checkValue(t, `{"b":{},"a":[]}`, 2, record(keys("a", "b"), listed(), record(nil)))
	checkValue(t, `[[[]],[],[[]]]`, 3, listed(listed(listed()), listed(), listed(listed())))
	checkError(t, "[[],[],{},[[]]]", 2, 11, api.ErrDeep)
	checkError(t, "[[],[],{},[{}]]", 2, 11, api.ErrDeep)
	checkError(t, "[1, [", 1, 4, api.ErrDeep)
	checkError(t, `{"a":1,"b": {`, 1, 12, api.ErrDeep)
	checkError(t, "[]", 0, 0, api.ErrDeep)
	checkError(t, " {", 0, 1, api.ErrDeep)
	checkValue(t, " 1 ", 0, number(1))
	checkValue(t, `"[]"`, 0, text("[]"))
	// What can't stand there isn't told to be too deep, and what comes later isn't told.
	checkError(t, "{[", 1, 1, api.ErrForm)
	checkError(t, "{{", 1, 1, api.ErrForm)
	checkError(t, "1 [", 0, 2, api.ErrForm)
	checkError(t, "[1 [", 1, 3, api.ErrForm)
	checkError(t, `{"a" [`, 1, 5, api.ErrForm)
	checkError(t, "]", 0, 0, api.ErrForm)
	checkError(t, "[[ x", 1, 1, api.ErrDeep)
	checkError(t, `{"a":1,"a":[`, 1, 7, api.ErrTwice)
	checkError(t, `{"a":[],"a":1}`, 1, 5, api.ErrDeep)
	checkError(t, "x[", 0, 0, api.ErrForm)
}

func TestDepthsThatAreNone(t *testing.T) { // P6.1 and R2
	for _, depth := range []int{-1, 65, -2, 66, 100, 1000, math.MinInt, math.MaxInt, -64, 1 << 32, -1 << 32} {
		for _, s := range []string{"1", "", "x", "[[[", `"`, "\xff", strings.Repeat(" ", api.MaxText+1)} {
			checkError(t, s, depth, 0, api.ErrRange)
		}
	}
	checkValue(t, "1", 0, number(1))
	checkValue(t, "1", 64, number(1))
}

func TestLengths(t *testing.T) { // P6.1 and R2
	for _, many := range []int{api.MaxText - 1, api.MaxText, api.MaxText + 1, api.MaxText + 2, 2 * api.MaxText, 1 << 20} {
		for _, s := range []string{
			strings.Repeat(" ", many-1) + "1",
			"1" + strings.Repeat(" ", many-1),
			`"` + strings.Repeat("x", many-2) + `"`,
			`"x` + strings.Repeat("\u00e9", (many-3)/2) + strings.Repeat("y", (many-3)%2) + `"`,
			strings.Repeat(" ", many),
			"x" + strings.Repeat(" ", many-1),
			"[" + strings.Repeat("1", many-1),
			strings.Repeat("[", many),
			strings.Repeat("\xff", many),
		} {
			if len(s) != many {
				t.Fatalf("%d bytes; want %d", len(s), many)
			}
			if many > api.MaxText {
				checkError(t, s, 0, 0, api.ErrLong)
				checkError(t, s, api.MaxDepth, 0, api.ErrLong)
			} else {
				checkText(t, s, 0)
				checkText(t, s, api.MaxDepth)
			}
		}
	}
	checkError(t, strings.Repeat(" ", api.MaxText), 3, api.MaxText, api.ErrForm)
}

// each hands on all texts of at most so many pieces.
func each(many int, pieces []string, do func(s string)) {
	var lay func(s string, many int)
	lay = func(s string, many int) {
		do(s)
		if many == 0 {
			return
		}
		for _, piece := range pieces {
			lay(s+piece, many-1)
		}
	}
	lay("", many)
}

func TestShortTexts(t *testing.T) { // P6.1 and P6.2
	many := 6
	if testing.Short() {
		many = 5
	}
	signs := []string{"[", "]", "{", "}", ",", ":", `"a"`, "1"}
	each(many, signs, func(s string) { checkText(t, s, 2) })
	for depth := range 4 {
		each(4, append(signs, `"\u0061"`, `"b"`, "null", "true", "x", "1.5", " ", `"`), func(s string) { checkText(t, s, depth) })
	}
	for _, s := range []string{`{"a":1,`, `{"a":1,"b":2`, `{"a":[1`, `[[1,{"a":1}`, `[{"a":`} {
		each(4, signs, func(more string) { checkText(t, s+more, 3) })
	}
}

// writer writes values in one of the many ways in which they may be written, as its numbers say.
type writer struct{ *rand.Rand }

func (w writer) blanks() string {
	s := ""
	for w.Intn(4) == 0 {
		s += string(" \t\n\r"[w.Intn(4)])
	}
	return s
}

func (w writer) text(s string) string {
	b := `"`
	for _, r := range s {
		switch {
		case w.Intn(4) == 0 && r > 0xFFFF:
			b += fmt.Sprintf(`\u%04x\u%04X`, 0xD800+(r-0x10000)>>10, 0xDC00+(r-0x10000)&0x3FF)
		case r < ' ' || r == '"' || r == '\\' || w.Intn(4) == 0 && r <= 0xFFFF:
			b += fmt.Sprintf(`\u%04x`, r)
		default:
			b += string(r)
		}
	}
	return b + `"`
}

func (w writer) value(v value.Value) string {
	s := ""
	switch v.Kind {
	case value.Null:
		s = "null"
	case value.Bool:
		s = strconv.FormatBool(v.Bool)
	case value.Int:
		s = strconv.FormatInt(v.Int, 10)
	case value.Str:
		s = w.text(v.Str)
	case value.Arr:
		s = "["
		for at, item := range v.Items {
			s += strings.Repeat(",", min(at, 1)) + w.value(item)
		}
		s += w.blanks() + "]"
	case value.Obj:
		s = "{"
		for at, which := range w.Perm(len(v.Keys)) {
			s += strings.Repeat(",", min(at, 1)) + w.blanks() + w.text(v.Keys[which]) + w.blanks() + ":" + w.value(v.Items[which])
		}
		s += w.blanks() + "}"
	}
	return w.blanks() + s + w.blanks()
}

var names = keys("", "a", "b", "ab", "\x00", "\"", "\\", "/", "\n", "\u00e9", "\uFFFD", "\uFFFF", "\U0001F600", "[", "1", "null", "\x1f ")

// drawn is a value of at most so many levels.
func (w writer) drawn(deep int) value.Value {
	kinds := 6
	if deep == 0 {
		kinds = 4
	}
	switch kind := w.Intn(kinds); kind {
	case value.Bool:
		return truth(w.Intn(2) == 1)
	case value.Int:
		return number(int64(w.Uint64()) >> w.Intn(64))
	case value.Str:
		return text(names[w.Intn(len(names))] + names[w.Intn(len(names))])
	case value.Arr:
		v := listed()
		for range w.Intn(5) {
			v.Items = append(v.Items, w.drawn(deep-1))
		}
		return v
	case value.Obj:
		v := record(nil)
		for _, which := range w.Perm(len(names))[:w.Intn(6)] {
			v.Keys = append(v.Keys, names[which])
			v.Items = append(v.Items, w.drawn(deep-1))
		}
		slices.Sort(v.Keys)
		return v
	}
	return null()
}

func TestHoweverWritten(t *testing.T) { // P6.1 and P6.2
	w := writer{rand.New(rand.NewSource(6))}
	for range 5000 {
		v := w.drawn(w.Intn(5))
		s := w.value(v)
		checkValue(t, s, max(v.Depth(), w.Intn(api.MaxDepth+1)), v)
		if v.Depth() > 0 {
			if _, _, e := Parse(s, v.Depth()-1); e != api.ErrDeep {
				t.Errorf("Parse(%q, %d): %d; want ErrDeep", s, v.Depth()-1, e)
			}
		}
	}
}

func TestSpoiltTexts(t *testing.T) { // P6.1 and P6.2
	w := writer{rand.New(rand.NewSource(66))}
	pieces := []string{"", "[", "]", "{", "}", ",", ":", `"`, `"a"`, `"a":`, `"\u0061":1,`, "1", "-", "1.5", "null", " ", "\xff", `\`, `\ud800`, "x", "\x00", "9223372036854775808"}
	for range 20000 {
		s := w.value(w.drawn(1 + w.Intn(3)))
		for range 1 + w.Intn(2) {
			at := w.Intn(len(s) + 1)
			behind := min(at+w.Intn(3), len(s))
			s = s[:at] + pieces[w.Intn(len(pieces))] + s[behind:]
		}
		checkText(t, s, w.Intn(5))
		checkLibrary(t, s)
	}
}

// checkLibrary: does a text have a value just if the library takes it, or for a cause that the profile names?
func checkLibrary(t *testing.T, s string) {
	t.Helper()
	_, place, e := Parse(s, api.MaxDepth)
	valid := json.Valid([]byte(s))
	if e == api.OK && !valid {
		t.Errorf("%.300q has a value, and is none to the library", s)
	}
	if e == api.ErrForm && valid {
		t.Errorf("%.300q is one to the library, and is told to have another form at %d", s, place)
	}
}

func TestJustTextsOfTheProfile(t *testing.T) { // P6.2
	each(5, []string{"[", "]", "{", "}", ",", ":", `"a"`, `"b"`, "1", " "}, func(s string) { checkLibrary(t, s) })
	// What is only a little outside.
	for _, s := range []string{"[1.0]", "[1e0]", `{"a":1,"a":1}`, `"\ud800"`, "\"\xff\"", "9223372036854775808", strings.Repeat("[", 65) + strings.Repeat("]", 65), strings.Repeat(" ", api.MaxText) + "1"} {
		if !json.Valid([]byte(s)) || Fits(s, api.MaxDepth) {
			t.Errorf("%.100q fits, or is none to the library", s)
		}
	}
}

func TestEveryBegunText(t *testing.T) { // P6.1 and P6.2
	whole := ` { "a" : [ 1 , true , "x\n\ud83d\ude00" , { } , [ ] ] , "b" : { "c" : null , "d" : -20 } } `
	end := strings.TrimRight(whole, " ")
	for at := range len(end) {
		checkText(t, whole[:at], 3)
		if Fits(whole[:at], 3) {
			t.Errorf("%q fits", whole[:at])
		}
	}
	for at := range len(whole) {
		checkText(t, whole[at:], 3)
		checkText(t, whole[:at]+whole[at+1:], 3)
		for c := range 256 {
			checkText(t, whole[:at]+string([]byte{byte(c)})+whole[at+1:], 3)
			checkText(t, whole[:at]+string([]byte{byte(c)})+whole[at:], 3)
		}
	}
}

// spoil changes all that a value's lists hold, spare room included.
func spoil(v value.Value) {
	for _, item := range v.Items {
		spoil(item)
	}
	items, all := v.Items[:cap(v.Items)], v.Keys[:cap(v.Keys)]
	for at := range items {
		items[at] = text("spoilt")
	}
	for at := range all {
		all[at] = "spoilt"
	}
}

func TestAnswersAreNew(t *testing.T) { // P8: R6 and R8
	w := writer{rand.New(rand.NewSource(666))}
	for range 500 {
		s := w.value(w.drawn(4))
		one, _, _ := Parse(s, 4)
		two, _, _ := Parse(s, 4)
		kept := two.Copy()
		spoil(one)
		three, _, _ := Parse(s, 4)
		if !alike(two, kept) || !alike(three, kept) {
			t.Fatalf("%q: answers share something", s)
		}
	}
	// No two lists of one answer share anything.
	s := `[[1,2],[1,2],{"a":[1,2],"b":1},{"a":[1,2],"b":1},[],[]]`
	for at := range 6 {
		v, _, _ := Parse(s, 3)
		kept := v.Copy()
		spoil(v.Items[at])
		for other := range 6 {
			if other != at && !alike(v.Items[other], kept.Items[other]) {
				t.Errorf("items %d and %d share something", at, other)
			}
		}
	}
}

func TestErrorsLeaveNothing(t *testing.T) { // P8: R4 and R8
	for range 3 {
		checkError(t, `{"a":1,"a":2}`, 1, 7, api.ErrTwice)
		checkValue(t, `{"a":1,"b":2}`, 1, record(keys("a", "b"), number(1), number(2)))
		checkError(t, `[[[`, 2, 2, api.ErrDeep)
		checkValue(t, `[[]]`, 2, listed(listed()))
	}
}

func TestLong(t *testing.T) { // P7
	many := strings.Builder{}
	for n := 0; many.Len() < api.MaxText-20; n++ {
		fmt.Fprintf(&many, `"%d":%d,`, 5000-n, n)
	}
	members := "{" + many.String() + `"x":0}`
	deepest := strings.Repeat("[", api.MaxDepth-1) + strings.Repeat("]", api.MaxDepth-1)
	for _, s := range []string{
		members,
		strings.TrimSuffix(members, `"x":0}`) + `"5000":0}`,
		"[" + strings.Repeat("0,", api.MaxText/2-2) + "0]",
		"[" + strings.Repeat("[],", api.MaxText/3-2) + "[]]",
		"[" + strings.Repeat("{},", api.MaxText/3-2) + "{}]",
		"[" + strings.Repeat(deepest+",", api.MaxText/(2*api.MaxDepth)-2) + "1]",
		strings.Repeat("[", api.MaxText),
		strings.Repeat("{", api.MaxText),
		strings.Repeat(`{"":`, api.MaxText/4),
		strings.Repeat("[1,", api.MaxText/3),
		strings.Repeat("]", api.MaxText),
		strings.Repeat(",", api.MaxText),
		`"` + strings.Repeat(`\u0000`, api.MaxText/6-1) + `"`,
		`{"` + strings.Repeat(`\ud83d\ude00`, api.MaxText/12-1) + `":1}`,
		"[" + strings.Repeat("1", api.MaxText-2) + "]",
	} {
		checkText(t, s, api.MaxDepth)
		checkText(t, s, 1)
	}
}

func FuzzTexts(f *testing.F) {
	for _, s := range []string{"", "1", ` {"b": [1, null], "a": "\ud83d\ude00"} `, `{"a":1,"\u0061":2}`, "[[[]]]", "[1.5]", "\"\xff\"", "[1,]"} {
		f.Add(s, 2)
	}
	f.Fuzz(func(t *testing.T, s string, depth int) {
		checkText(t, s, depth)
		checkText(t, s, depth&63)
		if len(s) <= api.MaxText {
			checkLibrary(t, s)
		}
	})
}
