package token

import (
	"encoding/json"
	"fmt"
	"math"
	"math/big"
	"math/rand"
	"regexp"
	"slices"
	"strconv"
	"strings"
	"testing"
	"unicode/utf16"
	"unicode/utf8"

	"cheval/api"
)

// What the words of the chapter tell, by other means than the program's: told and those it calls.

var (
	blanksAhead = regexp.MustCompile(`^[ \t\n\r]*`)
	numberAhead = regexp.MustCompile(`^(-?(?:0|[1-9][0-9]*)?)(\.[0-9]*)?([eE][+-]?[0-9]*)?`)
	signAhead   = regexp.MustCompile(`^\\["\\/bfnrt]`)
	unitsAhead  = regexp.MustCompile(`^(?:\\u[0-9a-fA-F]{4})+`)
	begunAhead  = regexp.MustCompile(`^\\(?:u[0-9a-fA-F]{0,3})?`)
)

// told is what Next must answer at a place.
func told(s string, at int) (Token, int, api.Errno) {
	at += len(blanksAhead.FindString(s[at:]))
	rest := s[at:]
	switch {
	case rest == "":
		return Token{Kind: 0, At: at, End: at}, 0, api.OK
	case strings.Contains("{}[]:,", rest[:1]):
		return Token{Kind: 1, Text: rest[:1], At: at, End: at + 1}, 0, api.OK
	case rest[0] == '"':
		return toldStr(s, at)
	case strings.Contains("-0123456789", rest[:1]):
		return toldNum(s, at)
	}
	for kind, word := range map[int]string{4: "true", 5: "false", 6: "null"} {
		same := 0
		for same < len(word) && strings.HasPrefix(rest, word[:same+1]) {
			same++
		}
		if same == len(word) {
			return Token{Kind: kind, At: at, End: at + same}, 0, api.OK
		}
		if same > 0 {
			return Token{}, at + same, api.ErrForm
		}
	}
	return Token{}, at, api.ErrForm
}

func toldNum(s string, at int) (Token, int, api.Errno) {
	m := numberAhead.FindStringSubmatch(s[at:])
	if m[1] == "-" {
		return Token{}, at + 1, api.ErrForm
	}
	if m[2] == "." {
		return Token{}, at + len(m[1]) + 1, api.ErrForm
	}
	if m[3] != "" && !strings.ContainsAny(m[3], "0123456789") {
		return Token{}, at + len(m[0]), api.ErrForm
	}
	n, _ := new(big.Int).SetString(m[1], 10)
	if m[2]+m[3] != "" || !n.IsInt64() {
		return Token{}, at, api.ErrNumber
	}
	return Token{Kind: 3, Int: n.Int64(), At: at, End: at + len(m[1])}, 0, api.OK
}

func toldStr(s string, at int) (Token, int, api.Errno) {
	said := ""
	for place := at + 1; ; {
		rest := s[place:]
		point, size := utf8.DecodeRuneInString(rest)
		sign, units := signAhead.FindString(rest), unitsAhead.FindString(rest)
		switch {
		case rest == "" || rest[0] < 0x20:
			return Token{}, place, api.ErrForm
		case rest[0] == '"':
			return Token{Kind: 2, Text: said, At: at, End: place + 1}, 0, api.OK
		case point == utf8.RuneError && size == 1:
			return Token{}, place, api.ErrUTF
		case sign != "":
			said += strings.NewReplacer("\\\"", "\"", "\\\\", "\\", "\\/", "/", "\\b", "\x08", "\\f", "\x0C", "\\n", "\x0A", "\\r", "\x0D", "\\t", "\x09").Replace(sign)
			place += len(sign)
		case units != "":
			more, lone := toldUnits(units)
			if lone >= 0 {
				return Token{}, place + lone, api.ErrLone
			}
			said += more
			place += len(units)
		case rest[0] == '\\':
			return Token{}, place + len(begunAhead.FindString(rest)), api.ErrForm
		default:
			said += rest[:size]
			place += size
		}
	}
}

// toldUnits is the text of escapes, and -1; or the place of one that stands alone.
func toldUnits(s string) (string, int) {
	var l []uint16
	for at := 0; at < len(s); at += 6 {
		n, _ := strconv.ParseUint(s[at+2:at+6], 16, 16)
		l = append(l, uint16(n))
	}
	for at := 0; at < len(l); at++ {
		if !utf16.IsSurrogate(rune(l[at])) {
			continue
		}
		if at+1 == len(l) || utf16.DecodeRune(rune(l[at]), rune(l[at+1])) == utf8.RuneError {
			return "", 6 * at
		}
		at++
	}
	return string(utf16.Decode(l)), -1
}

// checkText goes through a text by Next, and by All, and holds what they tell against what is told.
func checkText(t *testing.T, s string) {
	t.Helper()
	l, at := New(s), 0
	var tokens []Token
	for {
		want, place, e := told(s, at)
		if l.Place() != at {
			t.Fatalf("P5.1: %q: at place %d, want %d", s, l.Place(), at)
		}
		// What failed, and the end, is told again and again, and the place stays.
		for range 2 {
			got, where, err := l.Next()
			if got != want || where != place || err != e {
				t.Fatalf("P5.1: Next(%q) from place %d on: %+v, place %d, error %d, want %+v, place %d, error %d", s, at, got, where, err, want, place, e)
			}
			if e == api.OK && want.Kind != 0 {
				break
			}
		}
		if e != api.OK {
			if l.Place() != at {
				t.Fatalf("P5.1: %q: an error led from place %d to %d", s, at, l.Place())
			}
			checkAll(t, s, nil, place, e)
			return
		}
		tokens = append(tokens, want)
		at = want.End
		if want.Kind == 0 {
			if l.Place() != len(s) {
				t.Fatalf("P5.1: %q: at the end the place is %d", s, l.Place())
			}
			checkAll(t, s, tokens, 0, api.OK)
			return
		}
	}
}

func checkAll(t *testing.T, s string, want []Token, place int, e api.Errno) {
	t.Helper()
	if l, at, err := All(s); !slices.Equal(l, want) || at != place || err != e {
		t.Fatalf("P5.1: All(%q): %+v, place %d, error %d, want %+v, place %d, error %d", s, l, at, err, want, place, e)
	}
}

// checkToken asks for the first token of a text.
func checkToken(t *testing.T, s string, want Token) {
	t.Helper()
	l := New(s)
	if got, at, e := l.Next(); got != want || at != 0 || e != api.OK || l.Place() != want.End {
		t.Fatalf("P5.1: Next(%q): %+v, place %d, error %d, then at %d, want %+v", s, got, at, e, l.Place(), want)
	}
}

// checkError asks for the first error of a text that begins with it.
func checkError(t *testing.T, s string, place int, want api.Errno) {
	t.Helper()
	l := New(s)
	if got, at, e := l.Next(); got != (Token{}) || at != place || e != want || l.Place() != 0 {
		t.Fatalf("P5.1: Next(%q): %+v, place %d, error %d, then at %d, want place %d, error %d", s, got, at, e, l.Place(), place, want)
	}
	checkAll(t, s, nil, place, want)
}

// bytes are all there are, each as a text of one byte.
func bytes() []string {
	var l []string
	for b := range 256 {
		l = append(l, string([]byte{byte(b)}))
	}
	return l
}

func TestKinds(t *testing.T) { // P5.1
	if kinds := [...]int{End, Mark, Str, Num, True, False, Null}; kinds != [...]int{0, 1, 2, 3, 4, 5, 6} {
		t.Errorf("P5.1: the kinds are %d", kinds)
	}
}

func TestTokens(t *testing.T) { // P5.1
	for s, want := range map[string]Token{
		"": {}, " \t\n\r": {At: 4, End: 4},
		"{": {Kind: Mark, Text: "{", End: 1}, "}": {Kind: Mark, Text: "}", End: 1}, "[": {Kind: Mark, Text: "[", End: 1}, "]": {Kind: Mark, Text: "]", End: 1}, ":": {Kind: Mark, Text: ":", End: 1}, ",": {Kind: Mark, Text: ",", End: 1},
		"[[": {Kind: Mark, Text: "[", End: 1}, "\n , ,": {Kind: Mark, Text: ",", At: 2, End: 3}, "]\xff": {Kind: Mark, Text: "]", End: 1},
		"true": {Kind: True, End: 4}, "false": {Kind: False, End: 5}, "null": {Kind: Null, End: 4}, " true ": {Kind: True, At: 1, End: 5}, "truefalse": {Kind: True, End: 4}, "nullx": {Kind: Null, End: 4}, "false\"": {Kind: False, End: 5},
		"0": {Kind: Num, End: 1}, "-0": {Kind: Num, End: 2}, "7": {Kind: Num, Int: 7, End: 1}, "-7": {Kind: Num, Int: -7, End: 2}, "10": {Kind: Num, Int: 10, End: 2}, "120 3": {Kind: Num, Int: 120, End: 3}, "\r-12,": {Kind: Num, Int: -12, At: 1, End: 4},
		"01": {Kind: Num, End: 1}, "-01": {Kind: Num, End: 2}, "00": {Kind: Num, End: 1}, "1-2": {Kind: Num, Int: 1, End: 1}, "1+2": {Kind: Num, Int: 1, End: 1}, "1x": {Kind: Num, Int: 1, End: 1}, "1\xff": {Kind: Num, Int: 1, End: 1}, "0x10": {Kind: Num, End: 1}, "1_0": {Kind: Num, Int: 1, End: 1}, "12\"": {Kind: Num, Int: 12, End: 2},
		"9223372036854775807": {Kind: Num, Int: math.MaxInt64, End: 19}, "-9223372036854775808": {Kind: Num, Int: math.MinInt64, End: 20}, "09223372036854775808": {Kind: Num, End: 1},
		`""`: {Kind: Str, End: 2}, `"a"`: {Kind: Str, Text: "a", End: 3}, `"a b"`: {Kind: Str, Text: "a b", End: 5}, ` "a"b"`: {Kind: Str, Text: "a", At: 1, End: 4}, `"a""b"`: {Kind: Str, Text: "a", End: 3}, `"{}[]:,true0"`: {Kind: Str, Text: "{}[]:,true0", End: 13},
		"\"\x7f\"": {Kind: Str, Text: "\x7f", End: 3}, "\"\u00e9\u20ac\U0001F600\"": {Kind: Str, Text: "\u00e9\u20ac\U0001F600", End: 11}, "\"\uFFFD\"": {Kind: Str, Text: "\uFFFD", End: 5}, "\"\U0010FFFF\uFEFF\"": {Kind: Str, Text: "\U0010FFFF\uFEFF", End: 9}, `"'"`: {Kind: Str, Text: "'", End: 3},
		`"\""`: {Kind: Str, Text: "\"", End: 4}, `"\\"`: {Kind: Str, Text: "\\", End: 4}, `"\/"`: {Kind: Str, Text: "/", End: 4}, `"\b"`: {Kind: Str, Text: "\x08", End: 4}, `"\f"`: {Kind: Str, Text: "\x0C", End: 4}, `"\n"`: {Kind: Str, Text: "\x0A", End: 4}, `"\r"`: {Kind: Str, Text: "\x0D", End: 4}, `"\t"`: {Kind: Str, Text: "\x09", End: 4},
		`"\\\""`: {Kind: Str, Text: "\\\"", End: 6}, `"\\u0041"`: {Kind: Str, Text: "\\u0041", End: 9}, `"/"`: {Kind: Str, Text: "/", End: 3},
		`"\u0000"`: {Kind: Str, Text: "\x00", End: 8}, `"\u0041"`: {Kind: Str, Text: "A", End: 8}, `"\u00e9"`: {Kind: Str, Text: "\u00e9", End: 8}, `"\u00E9"`: {Kind: Str, Text: "\u00e9", End: 8}, `"\u00411"`: {Kind: Str, Text: "A1", End: 9}, `"\u0022"`: {Kind: Str, Text: "\"", End: 8}, `"\u005c"`: {Kind: Str, Text: "\\", End: 8}, `"\uabCD"`: {Kind: Str, Text: "\uabcd", End: 8},
		`"\uD7FF\uE000"`: {Kind: Str, Text: "\uD7FF\uE000", End: 14}, `"\uFFFF\uFFFD"`: {Kind: Str, Text: "\uFFFF\uFFFD", End: 14},
		`"\uD83D\uDE00"`: {Kind: Str, Text: "\U0001F600", End: 14}, `"\ud83d\ude00"`: {Kind: Str, Text: "\U0001F600", End: 14}, `"\ud800\udc00"`: {Kind: Str, Text: "\U00010000", End: 14}, `"\udbff\udfff"`: {Kind: Str, Text: "\U0010FFFF", End: 14}, `"a\ud83d\ude00b\u0063"`: {Kind: Str, Text: "a\U0001F600bc", End: 22}, `"\ud83d\ude00\ud83d\ude01"`: {Kind: Str, Text: "\U0001F600\U0001F601", End: 26},
	} {
		checkToken(t, s, want)
	}
}

func TestErrors(t *testing.T) { // P5.1
	for _, x := range []struct {
		s     string
		place int
		want  api.Errno
	}{
		// Nothing begins with these.
		{"x", 0, api.ErrForm}, {"  x", 2, api.ErrForm}, {"+1", 0, api.ErrForm}, {".5", 0, api.ErrForm}, {"e5", 0, api.ErrForm}, {"'a'", 0, api.ErrForm}, {"\\", 0, api.ErrForm}, {"/", 0, api.ErrForm}, {";", 0, api.ErrForm}, {"(", 0, api.ErrForm}, {"True", 0, api.ErrForm}, {"N", 0, api.ErrForm}, {"undefined", 0, api.ErrForm}, {"Infinity", 0, api.ErrForm},
		{"\x00", 0, api.ErrForm}, {"\v", 0, api.ErrForm}, {"\f", 0, api.ErrForm}, {" \x1f", 1, api.ErrForm}, {"\x7f", 0, api.ErrForm}, {"\u00a0", 0, api.ErrForm}, {"\ufeff1", 0, api.ErrForm}, {"\u2028", 0, api.ErrForm}, {"\u0661", 0, api.ErrForm}, {"\xff", 0, api.ErrForm}, {"\t\x80", 1, api.ErrForm},
		// The words.
		{"t", 1, api.ErrForm}, {"tru", 3, api.ErrForm}, {"tRue", 1, api.ErrForm}, {"trye", 2, api.ErrForm}, {" trux", 4, api.ErrForm}, {"f", 1, api.ErrForm}, {"fals", 4, api.ErrForm}, {"falsy", 4, api.ErrForm}, {"n", 1, api.ErrForm}, {"nul", 3, api.ErrForm}, {"nil", 1, api.ErrForm}, {"nulL", 3, api.ErrForm}, {"NaN", 0, api.ErrForm}, {"n\xff", 1, api.ErrForm}, {"nu ll", 2, api.ErrForm}, {"t\"", 1, api.ErrForm},
		// The numbers: their form first, then whether they are integers.
		{"-", 1, api.ErrForm}, {" -", 2, api.ErrForm}, {"--1", 1, api.ErrForm}, {"-+1", 1, api.ErrForm}, {"- 1", 1, api.ErrForm}, {"-.5", 1, api.ErrForm}, {"-e5", 1, api.ErrForm}, {"-x", 1, api.ErrForm}, {"-\xff", 1, api.ErrForm}, {"-true", 1, api.ErrForm},
		{"1.", 2, api.ErrForm}, {"1.x", 2, api.ErrForm}, {"1. 5", 2, api.ErrForm}, {"0.", 2, api.ErrForm}, {"-0.", 3, api.ErrForm}, {"1..5", 2, api.ErrForm}, {"1.-5", 2, api.ErrForm}, {"1.e5", 2, api.ErrForm}, {"1.E", 2, api.ErrForm},
		{"1e", 2, api.ErrForm}, {"1E", 2, api.ErrForm}, {"1ex", 2, api.ErrForm}, {"1ee5", 2, api.ErrForm}, {"1e.5", 2, api.ErrForm}, {"0e", 2, api.ErrForm}, {"1e+", 3, api.ErrForm}, {"1E-", 3, api.ErrForm}, {"1e+-5", 3, api.ErrForm}, {"1e++5", 3, api.ErrForm}, {"1e 5", 2, api.ErrForm}, {"1.5e", 4, api.ErrForm}, {"1.5E+x", 5, api.ErrForm}, {"12.34e-", 7, api.ErrForm},
		{"99999999999999999999.", 21, api.ErrForm}, {"99999999999999999999e", 21, api.ErrForm}, {"9223372036854775808.x", 20, api.ErrForm}, {"-9223372036854775809e-\"", 22, api.ErrForm},
		{"1.5", 0, api.ErrNumber}, {"1.0", 0, api.ErrNumber}, {"0.0", 0, api.ErrNumber}, {"-0.0", 0, api.ErrNumber}, {"1e5", 0, api.ErrNumber}, {"1E5", 0, api.ErrNumber}, {"0e0", 0, api.ErrNumber}, {"1e+0", 0, api.ErrNumber}, {"1E-00", 0, api.ErrNumber}, {"1.5e10", 0, api.ErrNumber}, {"  10.50E+007", 2, api.ErrNumber},
		{"1.5x", 0, api.ErrNumber}, {"1e5.", 0, api.ErrNumber}, {"1e5e", 0, api.ErrNumber}, {"1.5.", 0, api.ErrNumber}, {"1.5-", 0, api.ErrNumber}, {"1.5\xff", 0, api.ErrNumber}, {"1.05,", 0, api.ErrNumber},
		{"9223372036854775808", 0, api.ErrNumber}, {"-9223372036854775809", 0, api.ErrNumber}, {" 99999999999999999999 ", 1, api.ErrNumber}, {"18446744073709551616", 0, api.ErrNumber}, {"18446744073709551617x", 0, api.ErrNumber}, {"9223372036854775808-", 0, api.ErrNumber},
		// The strings: where they end, what can't stand in them, escapes.
		{`"`, 1, api.ErrForm}, {`"a`, 2, api.ErrForm}, {` "abc`, 5, api.ErrForm}, {"\"\u00e9", 3, api.ErrForm}, {"\"a\nb\"", 2, api.ErrForm}, {"\"\x00\"", 1, api.ErrForm}, {"\"\x1f\"", 1, api.ErrForm}, {"\"a\t", 2, api.ErrForm},
		{`"\`, 2, api.ErrForm}, {`"\"`, 3, api.ErrForm}, {`"\\\`, 4, api.ErrForm}, {`"\x"`, 2, api.ErrForm}, {`"\a"`, 2, api.ErrForm}, {`"\v"`, 2, api.ErrForm}, {`"\0"`, 2, api.ErrForm}, {`"\'"`, 2, api.ErrForm}, {`"\N"`, 2, api.ErrForm}, {`"\U0041"`, 2, api.ErrForm}, {"\"\\\n\"", 2, api.ErrForm}, {"\"\\\xff\"", 2, api.ErrForm}, {"\"\\\u00e9\"", 2, api.ErrForm}, {`"ab\`, 4, api.ErrForm},
		{`"\u`, 3, api.ErrForm}, {`"\u"`, 3, api.ErrForm}, {`"\u0`, 4, api.ErrForm}, {`"\u00"`, 5, api.ErrForm}, {`"\u004`, 6, api.ErrForm}, {`"\u004"`, 6, api.ErrForm}, {`"\u004g"`, 6, api.ErrForm}, {`"\u 041"`, 3, api.ErrForm}, {`"\u+041"`, 3, api.ErrForm}, {`"\u-041"`, 3, api.ErrForm}, {`"\u0_41"`, 4, api.ErrForm}, {`"\u{41}"`, 3, api.ErrForm}, {`"\u0x41"`, 4, api.ErrForm}, {"\"\\u00\xff0\"", 5, api.ErrForm}, {"\"\\u00\x100\"", 5, api.ErrForm}, {`"\u0041`, 7, api.ErrForm}, {`"\uD8`, 5, api.ErrForm}, {`"\uDC"`, 5, api.ErrForm}, {`"\uD80x`, 6, api.ErrForm}, {`"\ud83d\ude00`, 13, api.ErrForm},
		{"\"\xff\"", 1, api.ErrUTF}, {"\"a\x80\"", 2, api.ErrUTF}, {"\"\u00e9\xc3\"", 3, api.ErrUTF}, {"\"\xe2\x82\"", 1, api.ErrUTF}, {"\"\xe2\x82", 1, api.ErrUTF}, {"\"\xc0\x80\"", 1, api.ErrUTF}, {"\"\xc1\xbf\"", 1, api.ErrUTF}, {"\"\xe0\x80\x80\"", 1, api.ErrUTF}, {"\"\xed\xa0\x80\"", 1, api.ErrUTF}, {"\"\xed\xbf\xbf\"", 1, api.ErrUTF}, {"\"\xf4\x90\x80\x80\"", 1, api.ErrUTF}, {"\"\xf0\x9f\x98\"", 1, api.ErrUTF}, {"\"\uFFFD\xff\"", 4, api.ErrUTF}, {"\"\\n\xff", 3, api.ErrUTF}, {" \"\xff\xff", 2, api.ErrUTF}, {"\"\\u0041\xed", 7, api.ErrUTF},
		// A half that stands alone, whatever stands behind it.
		{`"\ud800"`, 1, api.ErrLone}, {`"\uDBFF"`, 1, api.ErrLone}, {`"\udc00"`, 1, api.ErrLone}, {`"\uDfFf"`, 1, api.ErrLone}, {`"ab\ud800"`, 3, api.ErrLone}, {` "\n\udc00"`, 4, api.ErrLone}, {`"\ud83d\ude00\ude00"`, 13, api.ErrLone},
		{`"\ud800\ud800"`, 1, api.ErrLone}, {`"\ud800\ud800\udc00"`, 1, api.ErrLone}, {`"\udc00\ud800"`, 1, api.ErrLone}, {`"\udc00\udc00"`, 1, api.ErrLone}, {`"\ud800\u0041"`, 1, api.ErrLone}, {`"\ud800\ue000"`, 1, api.ErrLone}, {`"\ud800\ud7ff"`, 1, api.ErrLone}, {`"\ud800\udbff"`, 1, api.ErrLone}, {`"\ud800a\udc00"`, 1, api.ErrLone}, {`"\ud800 \udc00"`, 1, api.ErrLone}, {`"\ud800\n"`, 1, api.ErrLone}, {`"\ud800\\udc00"`, 1, api.ErrLone},
		{`"\ud800`, 1, api.ErrLone}, {`"\ud800\`, 1, api.ErrLone}, {`"\ud800\u`, 1, api.ErrLone}, {`"\ud800\udc0`, 1, api.ErrLone}, {`"\ud800\udc0"`, 1, api.ErrLone}, {`"\ud800\udc0g"`, 1, api.ErrLone}, {`"\ud800\x"`, 1, api.ErrLone}, {`"\ud800\Udc00"`, 1, api.ErrLone}, {"\"\\ud800\xff\"", 1, api.ErrLone}, {"\"\\ud800\n\"", 1, api.ErrLone}, {"\"\\ud800\xed\xb0\x80\"", 1, api.ErrLone}, {"\"\\udc00\xff", 1, api.ErrLone}, {`"\udc00\x`, 1, api.ErrLone}, {"\"\\ud800/udc00\"", 1, api.ErrLone},
		// The first one from the left.
		{"\"\xff\\x\"", 1, api.ErrUTF}, {"\"\\x\xff\"", 2, api.ErrForm}, {"\"\\u00zz\xff\"", 5, api.ErrForm}, {"\"\xff\\ud800\"", 1, api.ErrUTF}, {"\"\x01\\ud800\"", 1, api.ErrForm}, {"\"\\ud800\\x\"", 1, api.ErrLone}, {`"\x\ud800"`, 2, api.ErrForm},
	} {
		checkError(t, x.s, x.place, x.want)
	}
}

// TestWords asks for each beginning of each word, and what stands behind it.
func TestWords(t *testing.T) { // P5.1
	for _, x := range []struct {
		kind int
		word string
	}{{True, "true"}, {False, "false"}, {Null, "null"}} {
		for many := 1; many < len(x.word); many++ {
			checkError(t, x.word[:many], many, api.ErrForm)
			for _, next := range bytes() {
				if next != x.word[many:many+1] {
					checkError(t, x.word[:many]+next+x.word[many:], many, api.ErrForm)
				}
			}
		}
		for _, next := range bytes() {
			checkToken(t, x.word+next, Token{Kind: x.kind, End: len(x.word)})
			checkText(t, x.word+next)
		}
	}
}

// TestEveryByte has each byte stand in each place.
func TestEveryByte(t *testing.T) { // P5.1
	for _, x := range bytes() {
		begins := strings.Contains("{}[]:,\"-0123456789tfn \t\n\r", x)
		if _, at, e := New(" " + x).Next(); !begins && (at != 1 || e != api.ErrForm) {
			t.Errorf("P5.1: %q begins a token: place %d, error %d", x, at, e)
		}
		if _, at, e := New("[ " + x).Next(); at != 0 || e != api.OK {
			t.Errorf("P5.1: a token ahead of %q: place %d, error %d", x, at, e)
		}
		for _, ahead := range []string{"", " ", "\"", "\"a", "\"\\", "\"\\u", "\"\\u0", "\"\\u00", "\"\\u004", "\"\\u0041", "\"\\ud800", "\"\\ud800\\", "\"\\ud800\\u", "\"\\ud800\\udc0", "\"a\"", "0", "1", "-", "-0", "1.", "1.5", "1e", "1e-", "1e5", "true", "[", "]"} {
			for _, behind := range []string{"", "0", "\"", "a\"", "041\"", "\x80\"", "\x80\x80\"", " 1"} {
				checkText(t, ahead+x+behind)
			}
		}
	}
}

// TestBlanks asks for tokens between which any blanks stand.
func TestBlanks(t *testing.T) { // P5.1
	few := []string{"", " ", "\t", "\n", "\r", "\r\n", "  \n\t\r ", strings.Repeat(" ", 100)}
	for _, first := range few {
		for _, second := range few {
			for _, third := range few {
				s := first + "{" + second + `"a"` + third
				l := New(s)
				checkNext(t, l, Token{Kind: Mark, Text: "{", At: len(first), End: len(first) + 1})
				at := len(first) + 1 + len(second)
				checkNext(t, l, Token{Kind: Str, Text: "a", At: at, End: at + 3})
				for range 3 {
					checkNext(t, l, Token{Kind: End, At: len(s), End: len(s)})
				}
			}
		}
	}
	// No other bytes are blanks.
	for _, x := range bytes() {
		l, _, e := All(x)
		if blank := x == " " || x == "\t" || x == "\n" || x == "\r"; blank != (e == api.OK && len(l) == 1) {
			t.Errorf("P5.1: All(%q): %+v, error %d", x, l, e)
		}
	}
}

// checkNext asks for the next token, and whether the place is behind it then.
func checkNext(t *testing.T, l *Lexer, want Token) {
	t.Helper()
	if got, at, e := l.Next(); got != want || at != 0 || e != api.OK {
		t.Fatalf("P5.1: Next: %+v, place %d, error %d, want %+v", got, at, e, want)
	}
	if l.Place() != want.End {
		t.Fatalf("P5.1: at place %d behind %+v", l.Place(), want)
	}
}

// checkStuck asks for an error, as often as one likes.
func checkStuck(t *testing.T, l *Lexer, place int, want api.Errno) {
	t.Helper()
	was := l.Place()
	for range 3 {
		if got, at, e := l.Next(); got != (Token{}) || at != place || e != want {
			t.Fatalf("P5.1: Next: %+v, place %d, error %d, want place %d, error %d", got, at, e, place, want)
		}
		if l.Place() != was {
			t.Fatalf("P5.1: an error led from place %d to %d", was, l.Place())
		}
	}
}

func TestPlaces(t *testing.T) { // P5.1, and P8: R4
	l := New(" \n1")
	if l.Place() != 0 {
		t.Errorf("P5.1: a new one is at %d", l.Place())
	}
	checkNext(t, l, Token{Kind: Num, Int: 1, At: 2, End: 3})
	// The document's example.
	l = New("01")
	checkNext(t, l, Token{Kind: Num, End: 1})
	checkNext(t, l, Token{Kind: Num, Int: 1, At: 1, End: 2})
	checkNext(t, l, Token{At: 2, End: 2})
	checkNext(t, l, Token{At: 2, End: 2})
	// An error leaves it ahead of the blanks.
	l = New("true  x 1")
	checkNext(t, l, Token{Kind: True, End: 4})
	checkStuck(t, l, 6, api.ErrForm)
	l = New("[\t\"a\\x\"]")
	checkNext(t, l, Token{Kind: Mark, Text: "[", End: 1})
	checkStuck(t, l, 5, api.ErrForm)
	l = New("-0 \r\"\\uD800\"")
	checkNext(t, l, Token{Kind: Num, End: 2})
	checkStuck(t, l, 5, api.ErrLone)
	l = New("\"\u20ac\" \"\xff")
	checkNext(t, l, Token{Kind: Str, Text: "\u20ac", End: 5})
	checkStuck(t, l, 7, api.ErrUTF)
	l = New("1 2.5")
	checkNext(t, l, Token{Kind: Num, Int: 1, End: 1})
	checkStuck(t, l, 2, api.ErrNumber)
	checkStuck(t, New("  "+strings.Repeat("9", 30)), 2, api.ErrNumber)
}

func TestAll(t *testing.T) { // P5.1
	checkAll(t, "", []Token{{}}, 0, api.OK)
	checkAll(t, " ", []Token{{At: 1, End: 1}}, 0, api.OK)
	checkAll(t, "01", []Token{{Kind: Num, End: 1}, {Kind: Num, Int: 1, At: 1, End: 2}, {At: 2, End: 2}}, 0, api.OK)
	checkAll(t, "{\"b\" : -12,\"\\u0061\":[true,false,null]}\n", []Token{
		{Kind: Mark, Text: "{", At: 0, End: 1}, {Kind: Str, Text: "b", At: 1, End: 4}, {Kind: Mark, Text: ":", At: 5, End: 6}, {Kind: Num, Int: -12, At: 7, End: 10}, {Kind: Mark, Text: ",", At: 10, End: 11},
		{Kind: Str, Text: "a", At: 11, End: 19}, {Kind: Mark, Text: ":", At: 19, End: 20}, {Kind: Mark, Text: "[", At: 20, End: 21}, {Kind: True, At: 21, End: 25}, {Kind: Mark, Text: ",", At: 25, End: 26}, {Kind: False, At: 26, End: 31}, {Kind: Mark, Text: ",", At: 31, End: 32}, {Kind: Null, At: 32, End: 36}, {Kind: Mark, Text: "]", At: 36, End: 37}, {Kind: Mark, Text: "}", At: 37, End: 38},
		{At: 39, End: 39},
	}, 0, api.OK)
	// No order of tokens is asked for.
	checkAll(t, "]}:,", []Token{{Kind: Mark, Text: "]", At: 0, End: 1}, {Kind: Mark, Text: "}", At: 1, End: 2}, {Kind: Mark, Text: ":", At: 2, End: 3}, {Kind: Mark, Text: ",", At: 3, End: 4}, {At: 4, End: 4}}, 0, api.OK)
	checkAll(t, "[1, 2.5]", nil, 4, api.ErrNumber)
	checkAll(t, "[1, \"\xff\", 2.5]", nil, 5, api.ErrUTF)
	checkAll(t, "[\"\\udc00\", x]", nil, 2, api.ErrLone)
	checkAll(t, "[x, \"\\udc00\"]", nil, 1, api.ErrForm)
	checkAll(t, "{\"a", nil, 3, api.ErrForm)
	checkAll(t, "1 .", nil, 2, api.ErrForm)
}

// checkPoint asks for a string in which a point stands as it is written.
func checkPoint(t *testing.T, written, point string) {
	t.Helper()
	s := "\"" + written + "a" + written + "\""
	checkToken(t, s, Token{Kind: Str, Text: point + "a" + point, End: len(s)})
}

// TestPoints has each point stand in a string, by itself and by escapes.
func TestPoints(t *testing.T) { // P5.1
	for n := range utf8.MaxRune + 1 {
		point := string(n)
		switch {
		case utf16.IsSurrogate(n):
			checkError(t, fmt.Sprintf(`"\u%04x"`, n), 1, api.ErrLone)
			checkError(t, fmt.Sprintf(`"b\u%04X`, n), 2, api.ErrLone)
			continue
		case n < 0x20:
			checkError(t, "\""+point+"\"", 1, api.ErrForm)
		case n != '"' && n != '\\':
			checkPoint(t, point, point)
		}
		if n < 0x10000 {
			checkPoint(t, fmt.Sprintf(`\u%04x`, n), point)
			checkPoint(t, fmt.Sprintf(`\u%04X`, n), point)
		} else if high, low := utf16.EncodeRune(n); n%7 == 0 || high == 0xD800 || high == 0xDBFF || low == 0xDC00 || low == 0xDFFF {
			checkPoint(t, fmt.Sprintf(`\u%04x\u%04X`, high, low), point)
		}
	}
}

// TestSigns has each byte stand behind a backslash.
func TestSigns(t *testing.T) { // P5.1
	points := map[string]string{"\"": "\"", "\\": "\\", "/": "/", "b": "\x08", "f": "\x0C", "n": "\x0A", "r": "\x0D", "t": "\x09"}
	for _, sign := range bytes() {
		point, ok := points[sign]
		switch {
		case ok:
			checkPoint(t, "\\"+sign, point)
		case sign == "u":
			checkError(t, `"\u"`, 3, api.ErrForm)
		default:
			checkError(t, "\"\\"+sign+"\"", 2, api.ErrForm)
		}
	}
}

// TestDigits has each byte stand in the place of each digit of an escape.
func TestDigits(t *testing.T) { // P5.1
	for at := range 4 {
		for _, digit := range bytes() {
			written := "0010"[:at] + digit + "0010"[at+1:]
			s := `"\u` + written + `"`
			if n, err := strconv.ParseUint(written, 16, 32); err == nil {
				if !utf16.IsSurrogate(rune(n)) {
					checkToken(t, s, Token{Kind: Str, Text: string(rune(n)), End: len(s)})
				}
			} else {
				checkError(t, s, 3+at, api.ErrForm)
				checkError(t, `"\ud800\u`+written+`"`, 1, api.ErrLone)
			}
		}
	}
}

// TestHalves asks for each two of some halves, and points beside them, one behind the other.
func TestHalves(t *testing.T) { // P5.1
	edges := []rune{0, 0x41, 0xD7FE, 0xD7FF, 0xD800, 0xD801, 0xDBFE, 0xDBFF, 0xDC00, 0xDC01, 0xDFFE, 0xDFFF, 0xE000, 0xE001, 0xFFFD, 0xFFFF}
	for _, a := range edges {
		for _, b := range edges {
			s := fmt.Sprintf(`"\u%04x\u%04x"`, a, b)
			pair := utf16.DecodeRune(a, b)
			switch {
			case pair != utf8.RuneError:
				checkToken(t, s, Token{Kind: Str, Text: string(pair), End: len(s)})
			case utf16.IsSurrogate(a):
				checkError(t, s, 1, api.ErrLone)
			case utf16.IsSurrogate(b):
				checkError(t, s, 7, api.ErrLone)
			default:
				checkToken(t, s, Token{Kind: Str, Text: string([]rune{a, b}), End: len(s)})
			}
		}
	}
}

// TestFaultsInStrings has each sort of fault stand behind some characters, and anything behind it.
func TestFaultsInStrings(t *testing.T) { // P5.1
	type fault struct {
		written string
		place   int
		e       api.Errno
	}
	faults := []fault{
		{"\x00", 0, api.ErrForm}, {"\n", 0, api.ErrForm}, {"\x1f", 0, api.ErrForm}, {"\\a", 1, api.ErrForm}, {"\\\xff", 1, api.ErrForm}, {"\\\x00", 1, api.ErrForm},
		{"\\ug", 2, api.ErrForm}, {"\\u1\xff", 3, api.ErrForm}, {"\\u12\\", 4, api.ErrForm}, {"\\ud80\"", 5, api.ErrForm},
		{"\xff", 0, api.ErrUTF}, {"\x80", 0, api.ErrUTF}, {"\xc3\"", 0, api.ErrUTF}, {"\xe2\x82\\", 0, api.ErrUTF}, {"\xed\xa0\x80", 0, api.ErrUTF}, {"\xf0\x9f\x98\"", 0, api.ErrUTF},
		{`\udc00`, 0, api.ErrLone}, {`\uD800"`, 0, api.ErrLone}, {`\ud800\n`, 0, api.ErrLone}, {`\ud800\ud800`, 0, api.ErrLone}, {`\udbff\uda`, 0, api.ErrLone}, {"\\ud800\xff", 0, api.ErrLone}, {`\ud800\uDC0"`, 0, api.ErrLone},
	}
	good := []string{"", "a", " ", `\"`, `\\`, `\/`, `\b\f`, `\u0041`, `\ud83d\ude00`, `\u005cu`, "\u00e9", "\uFFFD", "\U0001F600", "/u0041", "\x7f"}
	for _, first := range good {
		for _, second := range good {
			for _, x := range faults {
				for _, behind := range []string{"", "\"", "a\"", "\\", "\xff", "\n", `\udc00"`} {
					ahead := "\"" + first + second
					checkError(t, ahead+x.written+behind, len(ahead)+x.place, x.e)
				}
			}
			// Not closed.
			checkError(t, "\""+first+second, 1+len(first+second), api.ErrForm)
		}
	}
}

// each hands on all texts of up to so many of some pieces.
func each(many int, pieces []string, do func(s string)) {
	l := []string{""}
	for range many + 1 {
		var longer []string
		for _, s := range l {
			do(s)
			for _, piece := range pieces {
				longer = append(longer, s+piece)
			}
		}
		l = longer
	}
}

// states of a Num, and what leads from one to another: by classes of bytes.
var states = map[string]map[rune]string{
	"start":  {'-': "minus", '0': "zero", '1': "whole"},
	"minus":  {'0': "zero", '1': "whole"},
	"zero":   {'.': "point", 'e': "e"},
	"whole":  {'0': "whole", '1': "whole", '.': "point", 'e': "e"},
	"point":  {'0': "broken", '1': "broken"},
	"broken": {'0': "broken", '1': "broken", 'e': "e"},
	"e":      {'-': "sign", '+': "sign", '0': "power", '1': "power"},
	"sign":   {'0': "power", '1': "power"},
	"power":  {'0': "power", '1': "power"},
}

// TestShortNumbers goes through all texts of up to six of a number's signs, state by state.
func TestShortNumbers(t *testing.T) { // P5.1
	each(6, strings.Split("-01.e+", ""), func(s string) {
		if s == "" || !strings.Contains("-01", s[:1]) {
			return
		}
		state, behind := "start", 0
		for _, sign := range s {
			next, ok := states[state][sign]
			if !ok {
				break
			}
			state = next
			behind++
		}
		switch state {
		case "zero", "whole":
			n, err := strconv.ParseInt(s[:behind], 10, 64)
			if err != nil {
				t.Fatal(err)
			}
			checkToken(t, s, Token{Kind: Num, Int: n, End: behind})
		case "broken", "power":
			checkError(t, s, 0, api.ErrNumber)
		default:
			checkError(t, s, behind, api.ErrForm)
		}
	})
}

// TestGreatNumbers asks for numbers about the ends of the integers, and whatever may stand behind them.
func TestGreatNumbers(t *testing.T) { // P5.1
	for _, power := range []uint{31, 32, 53, 62, 63, 64, 65, 128, 500} {
		for off := int64(-12); off <= 12; off++ {
			n := new(big.Int).Lsh(big.NewInt(1), power)
			n.Add(n, big.NewInt(off))
			for _, sign := range []string{"", "-"} {
				for _, behind := range []string{"", " ", ",", "x", "-", "\"", ".", ".0", "e", "e0", "E+", "E-1", ".5e", ".5e5", "\xff"} {
					checkText(t, sign+n.String()+behind)
					checkText(t, "["+sign+n.String()+behind)
				}
			}
		}
	}
}

// TestShortTexts goes through all texts of up to some pieces, of each sort.
func TestShortTexts(t *testing.T) { // P5.1
	for _, x := range []struct {
		many   int
		pieces []string
	}{
		{4, []string{"\"", "\\", "u", "\\u", "d8", "DC", "00", "0", "n", "\u00e9", "\xc3", "\x1f", " "}},
		{5, []string{"\"", "\\ud83d", "\\uDE00", "\\u004", "1", "a", "\\"}},
		{4, []string{"{", "]", ",", ":", " ", "\n", "1", "-", "true", "nul", "l", "fals", "e", "\"a\"", "\"", "\xff"}},
		{5, []string{"t", "r", "u", "e", "n", "l", " "}},
		{5, []string{"-", "0", "9", ".", "e", "E", "+", " ", "99999999999999999999"}},
	} {
		each(x.many, x.pieces, func(s string) { checkText(t, s) })
	}
}

// TestDrawnTexts goes through longer texts that numbers lead to.
func TestDrawnTexts(t *testing.T) { // P5.1 and P5.2
	random := rand.New(rand.NewSource(5))
	pieces := []string{"{", "}", "[", "]", ":", ",", " ", "\t", "\n", "\r", "true", "false", "null", "0", "-0", "17", "-42", "9223372036854775807", "-9223372036854775808", `""`, `"a"`, "\"\u00e9\U0001F600\"", `"\u00e9\ud83d\ude00\n"`, `"\\"`, `"\""`, `" , "`}
	faults := []string{"x", "1.5", "1e5", "-", "tru", `"`, `"\ud800"`, `"\x"`, "\"\xff\"", "\x00", "9223372036854775808", "1.", "\"\n\""}
	for range 20000 {
		s := ""
		for range random.Intn(30) {
			s += pieces[random.Intn(len(pieces))]
			if random.Intn(60) == 0 {
				s += faults[random.Intn(len(faults))]
			}
		}
		checkText(t, s)
		checkBehindOneAnother(t, s)
	}
}

// checkBehindOneAnother asks whether a text is its tokens, and blanks between them, and each token's bytes are just it.
func checkBehindOneAnother(t *testing.T, s string) {
	t.Helper()
	l, _, e := All(s)
	if e != api.OK {
		return
	}
	at := 0
	for i, x := range l {
		if x.At < at || x.End < x.At || len(s) < x.End || strings.Trim(s[at:x.At], " \t\n\r") != "" {
			t.Fatalf("P5.2: %q: the token %+v stands behind place %d", s, x, at)
		}
		if (x.Kind == End) != (i == len(l)-1) || (x.Kind == End) != (x.At == x.End) || (x.Kind == End) != (x.At == len(s)) {
			t.Fatalf("P5.2: %q: %d of %d is the token %+v", s, i, len(l), x)
		}
		if x.Kind != End && (strings.Contains(" \t\n\r", s[x.At:x.At+1]) || strings.Contains(" \t\n\r", s[x.End-1:x.End])) {
			t.Fatalf("P5.2: %q: a blank belongs to %+v", s, x)
		}
		alone := x
		alone.At, alone.End = 0, x.End-x.At
		if got, place, e := New(s[x.At:x.End]).Next(); got != alone || place != 0 || e != api.OK {
			t.Fatalf("P5.2: the bytes %q of %+v are %+v, place %d, error %d", s[x.At:x.End], x, got, place, e)
		}
		at = x.End
	}
	if at != len(s) {
		t.Fatalf("P5.2: %q: the tokens end at %d", s, at)
	}
}

func TestBehindOneAnother(t *testing.T) { // P5.2
	pieces := []string{"{", ",", "1", "0", "-1", "true", "null", `"a"`, `""`, `" "`, " ", "\n", "\t\r"}
	each(4, pieces, func(s string) { checkBehindOneAnother(t, s) })
	// Tokens that aren't parted are those that they are when they are.
	words := []string{"{", "}", "[", "]", ":", ",", "0", "-0", "true", "false", "null", `"a"`, `"\""`}
	for _, a := range words {
		for _, b := range words {
			for _, between := range []string{"", " ", "\r\n\t "} {
				s := a + between + b
				l, at, e := All(s)
				if e != api.OK || at != 0 || len(l) != 3 || l[0].At != 0 || l[0].End != len(a) || l[1].At != len(a+between) || l[1].End != len(s) {
					t.Errorf("P5.2: All(%q): %+v, place %d, error %d", s, l, at, e)
				}
			}
		}
	}
}

// TestLexersAreTheirOwn has two of one text, and others, asked in turn.
func TestLexersAreTheirOwn(t *testing.T) { // P8: R8
	s := `{"a": [1, -2, "\n", null]} `
	whole, _, _ := All(s)
	a, b, c := New(s), New(s), New("  x")
	for at := range whole {
		checkNext(t, a, whole[at])
		checkStuck(t, c, 2, api.ErrForm)
		if at%2 == 1 {
			checkNext(t, b, whole[at/2])
		}
		if l, _, _ := All(s); !slices.Equal(l, whole) {
			t.Fatalf("R8: All(%q): %+v, then %+v", s, whole, l)
		}
	}
}

func TestAnswersAreNew(t *testing.T) { // P8: R3, R5 and R6
	s := `["a", 1]`
	a, _, _ := All(s)
	b, _, _ := All(s)
	for at := range a[:cap(a)] {
		a[:cap(a)][at] = Token{Kind: -1, Text: "spoilt"}
	}
	c, _, _ := All(s)
	if len(b) != 6 || !slices.Equal(b, c) {
		t.Errorf("R6: two answers share memory: %+v, %+v", b, c)
	}
	// The bytes that a text was made of may be changed: what was made of them stays.
	written := []byte(s)
	l := New(string(written))
	clear(written)
	checkNext(t, l, Token{Kind: Mark, Text: "[", At: 0, End: 1})
	checkNext(t, l, Token{Kind: Str, Text: "a", At: 1, End: 4})
}

// TestLong asks for long texts, which end soon.
func TestLong(t *testing.T) { // P7
	const many = 1 << 20
	for _, x := range []struct {
		s     string
		token Token
		place int
		e     api.Errno
	}{
		{strings.Repeat(" ", many), Token{At: many, End: many}, 0, api.OK},
		{strings.Repeat("[", many), Token{Kind: Mark, Text: "[", End: 1}, 0, api.OK},
		{strings.Repeat("0", many), Token{Kind: Num, End: 1}, 0, api.OK},
		{strings.Repeat("9", many), Token{}, 0, api.ErrNumber},
		{"-" + strings.Repeat("9", many) + "e", Token{}, many + 2, api.ErrForm},
		{"0." + strings.Repeat("0", many), Token{}, 0, api.ErrNumber},
		{"0e" + strings.Repeat("0", many) + "x", Token{}, 0, api.ErrNumber},
		{"\"" + strings.Repeat("a", many) + "\"", Token{Kind: Str, Text: strings.Repeat("a", many), End: many + 2}, 0, api.OK},
		{"\"" + strings.Repeat(`\\`, many) + "\"", Token{Kind: Str, Text: strings.Repeat(`\`, many), End: 2*many + 2}, 0, api.OK},
		{"\"" + strings.Repeat(`\ud83d\ude00`, many) + "\"", Token{Kind: Str, Text: strings.Repeat("\U0001F600", many), End: 12*many + 2}, 0, api.OK},
		{"\"" + strings.Repeat("\uFFFD", many), Token{}, 3*many + 1, api.ErrForm},
		{"\"" + strings.Repeat("\u20ac", many) + "\xff", Token{}, 3*many + 1, api.ErrUTF},
		{"\"" + strings.Repeat(`\n`, many) + `\ud800`, Token{}, 2*many + 1, api.ErrLone},
	} {
		if got, at, e := New(x.s).Next(); got != x.token || at != x.place || e != x.e {
			t.Errorf("P5.1: Next(%.20q ..): %.60s, place %d, error %d", x.s, fmt.Sprintf("%+v", got), at, e)
		}
	}
	for _, s := range []string{strings.Repeat("[", many), strings.Repeat("0", many), strings.Repeat("\"\"", many), strings.Repeat("1 ", many), strings.Repeat("null", many)} {
		if l, at, e := All(s); e != api.OK || at != 0 || len(l) < many {
			t.Errorf("P5.1: All(%.20q ..): %d tokens, place %d, error %d", s, len(l), at, e)
		}
	}
}

// FuzzTexts asks whether any bytes are read as the chapter says, and whether none panics (P7).
func FuzzTexts(f *testing.F) {
	for _, s := range []string{"", " ", "01", "-1.5e+3", "truefalse nul", `{"a": [1, -2, "\u00e9\ud83d\ude00\n", null]}`, "\"\xff\"", `"\ud800\u00"`, "9223372036854775808", "\"\x00"} {
		f.Add(s)
	}
	f.Fuzz(func(t *testing.T, s string) {
		checkText(t, s)
		checkBehindOneAnother(t, s)
		checkLibrary(t, s)
	})
}

// checkLibrary holds a text's first token, where it is a string, against the library's.
func checkLibrary(t *testing.T, s string) {
	t.Helper()
	x, _, e := New(s).Next()
	if e != api.OK || x.Kind != Str {
		return
	}
	var said string
	if err := json.Unmarshal([]byte(s[x.At:x.End]), &said); err != nil || said != x.Text {
		t.Fatalf("P5.1: the string %q: %q, want %q, %v", s[x.At:x.End], x.Text, said, err)
	}
}

func TestStringsOfLibrary(t *testing.T) { // P5.1
	each(4, []string{"a", "\\\"", "\\\\", "\\/", "\\b", "\\f", "\\n", "\\r", "\\t", "\\u0041", "\\ud83d\\ude00", "\u00e9"}, func(s string) {
		written := "\"" + s + "\""
		checkLibrary(t, written)
		if x, _, e := New(written).Next(); e != api.OK || x.Kind != Str || x.End != len(written) {
			t.Fatalf("P5.1: Next(%q): %+v, error %d", written, x, e)
		}
	})
}
