package iso

import (
	"fmt"
	"math"
	"math/big"
	"math/rand"
	"regexp"
	"slices"
	"strconv"
	"strings"
	"testing"

	"cheval/api"
	"cheval/token"
)

// The pieces of a text.
var (
	blankPiece  = regexp.MustCompile(`^[ \t\n\r]*`)
	wordPiece   = regexp.MustCompile(`^[A-Za-z][A-Za-z0-9_]*`)
	numberPiece = regexp.MustCompile(`^-?[0-9]+`)
	signPiece   = regexp.MustCompile(`^-?`)
	zeroGoesOn  = regexp.MustCompile(`^-?0[0-9]`)
)

// behindBlanks is the place behind the blanks that stand at one.
func behindBlanks(s string, at int) int { return at + len(blankPiece.FindString(s[at:])) }

// told is what the words of the chapter tell of what begins at a place of a text.
func told(s string, at int) ([]Iso, int, api.Errno) {
	var l []Iso
	for {
		at = behindBlanks(s, at)
		word := wordPiece.FindString(s[at:])
		if word == "" {
			return nil, at, api.ErrForm
		}
		x, behind := Iso{Name: word}, at+len(word)
		place, e := at, api.ErrName
		switch word {
		case "neg", "flip", "rev", "swap", "box", "show", "chars", "pairs":
			e = api.OK
		case "plus", "times":
			x.N, behind, place, e = toldNumber(s, behindBlanks(s, behind), word == "times")
		case "tag":
			x.Key, behind, place, e = toldString(s, behindBlanks(s, behind))
		}
		if e != api.OK {
			return nil, place, e
		}
		l, at = append(l, x), behindBlanks(s, behind)
		if at == len(s) || s[at] != '|' {
			return l, behind, api.OK
		}
		at++
	}
}

// toldNumber is the number that stands at a place, and the place behind it; or the error, and its place.
func toldNumber(s string, at int, no0 bool) (int64, int, int, api.Errno) {
	digits := numberPiece.FindString(s[at:])
	n, _ := new(big.Int).SetString(digits, 10)
	switch zero := zeroGoesOn.FindString(s[at:]); {
	case digits == "":
		return 0, 0, at + len(signPiece.FindString(s[at:])), api.ErrForm
	case zero != "":
		return 0, 0, at + len(zero) - 1, api.ErrForm
	case !n.IsInt64():
		return 0, 0, at, api.ErrNumber
	case no0 && n.Sign() == 0:
		return 0, 0, at, api.ErrRange
	}
	return n.Int64(), at + len(digits), 0, api.OK
}

// toldString is the string's text that stands at a place, and the place behind it; or the error, and its place.
func toldString(s string, at int) (string, int, int, api.Errno) {
	if at == len(s) || s[at] != '"' {
		return "", 0, at, api.ErrForm
	}
	t, place, e := token.New(s[at:]).Next()
	if e != api.OK {
		return "", 0, at + place, e
	}
	return t.Text, at + t.End, 0, api.OK
}

// checkText: is what begins at places of a text read as the words tell?
func checkText(t *testing.T, s string, places ...int) {
	t.Helper()
	for _, at := range places {
		want, wantPlace, wantE := told(s, at)
		got, place, e := Prefix(s, at)
		if !slices.Equal(got, want) || place != wantPlace || e != wantE {
			t.Errorf("P11.1: Prefix(%.300q, %d): %+v, %d, %d; want %+v, %d, %d", s, at, got, place, e, want, wantPlace, wantE)
		}
		for _, x := range got {
			if !x.Good() {
				t.Errorf("P11.1: Prefix(%.300q, %d): %+v is no iso", s, at, x)
			}
		}
	}
}

// toldText is isos' text, by the words.
func toldText(l []Iso) string {
	var parts []string
	for _, x := range l {
		switch x.Name {
		case "plus", "times":
			parts = append(parts, fmt.Sprintf("%s %d", x.Name, x.N))
		case "tag":
			parts = append(parts, "tag "+quoted(x.Key))
		default:
			parts = append(parts, x.Name)
		}
	}
	return strings.Join(parts, " | ")
}

// quoted is a key as a string.
func quoted(s string) string {
	var b strings.Builder
	for _, r := range s {
		switch at := strings.IndexRune("\"\\\b\f\n\r\t", r); {
		case at >= 0:
			b.WriteString(`\` + string(`"\bfnrt`[at]))
		case r < ' ':
			fmt.Fprintf(&b, `\u%04x`, r)
		default:
			b.WriteRune(r)
		}
	}
	return `"` + b.String() + `"`
}

// checkPrinted: is isos' text what the words tell, and read as them?
func checkPrinted(t *testing.T, l []Iso) {
	t.Helper()
	s := Print(l)
	if want := toldText(l); s != want {
		t.Errorf("P11.1: Print of %+v: %q; want %q", l, s, want)
	}
	if len(l) == 0 {
		return
	}
	for _, c := range []struct{ ahead, behind string }{{"", ""}, {"", ", just 1"}, {"map(", ", x)"}, {"\xff|", ")"}, {" | ", " "}} {
		got, place, e := Prefix(c.ahead+s+c.behind, len(c.ahead))
		if !slices.Equal(got, l) || place != len(c.ahead)+len(s) || e != api.OK {
			t.Errorf("P11.1: Prefix of %q behind %q: %+v, %d, %d", s, c.ahead, got, place, e)
		}
	}
}

func TestPrint(t *testing.T) { // P11.1
	for _, c := range []struct {
		l    []Iso
		want string
	}{
		{nil, ""}, {[]Iso{}, ""}, {plains("neg"), "neg"}, {plains("neg flip rev swap box show chars pairs"), "neg | flip | rev | swap | box | show | chars | pairs"}, {[]Iso{plus(2)}, "plus 2"}, {[]Iso{plus(-2), times(3)}, "plus -2 | times 3"}, {[]Iso{plus(0)}, "plus 0"}, {[]Iso{plus(least), times(most)}, "plus -9223372036854775808 | times 9223372036854775807"}, {[]Iso{tagged("a")}, `tag "a"`}, {[]Iso{tagged("")}, `tag ""`}, {[]Iso{tagged("a b"), plain("box"), tagged("|")}, `tag "a b" | box | tag "|"`}, {[]Iso{tagged("\"\\/\n\t\r\b\f\x00\x1f\x7f\u20ac\U0001F600")}, `tag "\"\\/\n\t\r\b\f\u0000\u001f` + "\x7f\u20ac\U0001F600\""},
	} {
		if s := Print(c.l); s != c.want {
			t.Errorf("Print of %+v: %q; want %q", c.l, s, c.want)
		}
		checkPrinted(t, c.l)
	}
	for _, x := range isos {
		checkPrinted(t, []Iso{x})
		for _, y := range isos {
			checkPrinted(t, []Iso{x, y})
			checkPrinted(t, []Iso{y, x, y})
		}
	}
	for c := range rune(0x300) {
		checkPrinted(t, []Iso{tagged(string(c))})
	}
	// The others are looked at many at a time.
	const some = 0x1000
	for first := rune(0); first <= 0x10FFFF; first += some {
		var b strings.Builder
		for c := first; c < first+some; c++ {
			if c < 0xD800 || 0xDFFF < c {
				b.WriteRune(c)
			}
		}
		checkPrinted(t, []Iso{tagged(b.String()), plain("box")})
	}
}

func TestPrefixes(t *testing.T) { // P11.1
	neg := plains("neg")
	for _, c := range []struct {
		s      string
		at     int
		want   []Iso
		behind int
	}{
		{"neg", 0, neg, 3}, {"flip", 0, plains("flip"), 4}, {"rev", 0, plains("rev"), 3}, {"swap", 0, plains("swap"), 4}, {"box", 0, plains("box"), 3}, {"show", 0, plains("show"), 4}, {"chars", 0, plains("chars"), 5}, {"pairs", 0, plains("pairs"), 5},
		{"plus 2", 0, []Iso{plus(2)}, 6}, {"plus -2", 0, []Iso{plus(-2)}, 7}, {"plus 0", 0, []Iso{plus(0)}, 6}, {"plus -0", 0, []Iso{plus(0)}, 7}, {"plus-2", 0, []Iso{plus(-2)}, 6}, {"plus\n\t\r 12", 0, []Iso{plus(12)}, 10}, {"times 2", 0, []Iso{times(2)}, 7}, {"times-1", 0, []Iso{times(-1)}, 7}, {"times 10", 0, []Iso{times(10)}, 8}, {"plus 9223372036854775807", 0, []Iso{plus(most)}, 24}, {"plus -9223372036854775808", 0, []Iso{plus(least)}, 25}, {"times -9223372036854775808", 0, []Iso{times(least)}, 26},
		{`tag "a"`, 0, []Iso{tagged("a")}, 7}, {`tag"a"`, 0, []Iso{tagged("a")}, 6}, {`tag ""`, 0, []Iso{tagged("")}, 6}, {`tag "\u0061\n\ud83d\ude00"`, 0, []Iso{tagged("a\n\U0001F600")}, 26}, {`tag "|" | neg`, 0, []Iso{tagged("|"), neg[0]}, 13}, {"tag \t\"neg\"", 0, []Iso{tagged("neg")}, 10},
		// One behind the other.
		{"plus 2 | show", 0, []Iso{plus(2), plain("show")}, 13}, {"plus 2|show", 0, []Iso{plus(2), plain("show")}, 11}, {"neg|neg|neg", 0, plains("neg neg neg"), 11}, {" neg\n|\tneg ", 0, plains("neg neg"), 10}, {`tag"a"|tag"b"|box`, 0, []Iso{tagged("a"), tagged("b"), plain("box")}, 17}, {"times 2|times -3 |rev", 0, []Iso{times(2), times(-3), plain("rev")}, 21},
		// It ends where no bar stands; blanks behind it aren't of it.
		{"neg ", 0, neg, 3}, {"neg  \n", 0, neg, 3}, {"neg, x", 0, neg, 3}, {"neg , x", 0, neg, 3}, {"neg)", 0, neg, 3}, {"neg neg", 0, neg, 3}, {"neg 2", 0, neg, 3}, {"neg-2", 0, neg, 3}, {`neg"a"`, 0, neg, 3}, {"neg\xff", 0, neg, 3}, {"neg\u00e9", 0, neg, 3}, {"neg\x00", 0, neg, 3}, {"neg\v|neg", 0, neg, 3}, {"neg\u00a0|neg", 0, neg, 3}, {"neg.|", 0, neg, 3}, {"plus 2x", 0, []Iso{plus(2)}, 6}, {"plus 2_", 0, []Iso{plus(2)}, 6}, {"plus 2.5", 0, []Iso{plus(2)}, 6}, {"plus 2e5", 0, []Iso{plus(2)}, 6}, {"plus 2neg", 0, []Iso{plus(2)}, 6}, {"plus 2-3", 0, []Iso{plus(2)}, 6}, {"plus 0x7", 0, []Iso{plus(0)}, 6}, {"plus 0.0", 0, []Iso{plus(0)}, 6}, {"plus 2 3", 0, []Iso{plus(2)}, 6}, {`tag "a"b`, 0, []Iso{tagged("a")}, 7}, {`tag "a""b"`, 0, []Iso{tagged("a")}, 7}, {"neg & neg", 0, neg, 3}, {"neg : neg", 0, neg, 3},
		// It begins where it is told, with blanks ahead of it.
		{"  neg", 0, neg, 5}, {"  neg", 1, neg, 5}, {"  neg", 2, neg, 5}, {"xneg", 1, neg, 4}, {"map(neg, x)", 4, neg, 7}, {"map( neg , x)", 4, neg, 8}, {"neg | rev", 5, plains("rev"), 9}, {"neg | rev", 6, plains("rev"), 9}, {"\xff\xffneg\xff", 2, neg, 5}, {`"box"`, 1, plains("box"), 4}, {"unbox", 2, plains("box"), 5}, {"|neg", 1, neg, 4}, {"times 12", 0, []Iso{times(12)}, 8},
	} {
		got, place, e := Prefix(c.s, c.at)
		if !slices.Equal(got, c.want) || place != c.behind || e != api.OK {
			t.Errorf("Prefix(%q, %d): %+v, %d, %d; want %+v, %d", c.s, c.at, got, place, e, c.want, c.behind)
		}
		checkText(t, c.s, c.at)
	}
}

func TestErrorsOfTexts(t *testing.T) { // P11.1
	for s, x := range map[string]struct {
		place int
		e     api.Errno
	}{
		// A name must stand.
		"": {0, api.ErrForm}, " ": {1, api.ErrForm}, " \n\t\r": {4, api.ErrForm}, "|": {0, api.ErrForm}, " |neg": {1, api.ErrForm}, "2": {0, api.ErrForm}, "-": {0, api.ErrForm}, `"neg"`: {0, api.ErrForm}, "_neg": {0, api.ErrForm}, "(neg": {0, api.ErrForm}, "\u00e9": {0, api.ErrForm}, " \xff": {1, api.ErrForm}, "\x00neg": {0, api.ErrForm}, "\vneg": {0, api.ErrForm}, "@": {0, api.ErrForm}, "[": {0, api.ErrForm}, "`": {0, api.ErrForm}, "{": {0, api.ErrForm}, "/": {0, api.ErrForm}, ":": {0, api.ErrForm},
		"neg|": {4, api.ErrForm}, "neg |": {5, api.ErrForm}, "neg | ": {6, api.ErrForm}, "neg ||neg": {5, api.ErrForm}, "neg | | neg": {6, api.ErrForm}, "neg|,": {4, api.ErrForm}, "neg | 2": {6, api.ErrForm}, "plus 2 |": {8, api.ErrForm}, `tag "a"|)`: {8, api.ErrForm}, "neg|rev|_": {8, api.ErrForm}, "neg |\u00e9": {5, api.ErrForm},
		// It must be one that is known.
		"x": {0, api.ErrName}, "Neg": {0, api.ErrName}, "NEG": {0, api.ErrName}, "ne": {0, api.ErrName}, "negg": {0, api.ErrName}, "neg2": {0, api.ErrName}, "neg_": {0, api.ErrName}, "neg_ |": {0, api.ErrName}, "plus2": {0, api.ErrName}, "times0": {0, api.ErrName}, "tags \"a\"": {0, api.ErrName}, "tag_\"a\"": {0, api.ErrName}, " minus 2": {1, api.ErrName}, "reverse": {0, api.ErrName}, "negrev": {0, api.ErrName}, "map(neg, x)": {0, api.ErrName}, "just": {0, api.ErrName}, "or": {0, api.ErrName}, "neg|x": {4, api.ErrName}, "neg | Rev | neg": {6, api.ErrName}, "plus 2 | plus2": {9, api.ErrName}, "x\xff": {0, api.ErrName}, "unbox": {0, api.ErrName}, "untag \"a\"": {0, api.ErrName},
		// An integer must stand.
		"plus": {4, api.ErrForm}, "plus ": {5, api.ErrForm}, "times": {5, api.ErrForm}, "plus|neg": {4, api.ErrForm}, "plus | neg": {5, api.ErrForm}, "plus x": {5, api.ErrForm}, "plus +2": {5, api.ErrForm}, `plus "2"`: {5, api.ErrForm}, "plus _2": {5, api.ErrForm}, "plus .5": {5, api.ErrForm}, "plus (2)": {5, api.ErrForm}, "plus \u0667": {5, api.ErrForm}, "plus\u00e9": {4, api.ErrForm}, "plus\xff": {4, api.ErrForm}, "times ,": {6, api.ErrForm}, "neg | times": {11, api.ErrForm}, "neg | times )": {12, api.ErrForm},
		// Behind a sign a digit must.
		"plus -": {6, api.ErrForm}, "plus -x": {6, api.ErrForm}, "plus - 2": {6, api.ErrForm}, "plus --2": {6, api.ErrForm}, "plus -+2": {6, api.ErrForm}, "plus - ": {6, api.ErrForm}, "plus -\n2": {6, api.ErrForm}, "plus -.5": {6, api.ErrForm}, "plus -_": {6, api.ErrForm}, `plus -"2"`: {6, api.ErrForm}, "plus -\u0667": {6, api.ErrForm}, "plus -\xff": {6, api.ErrForm}, "plus -\u2212": {6, api.ErrForm}, "plus \u22122": {5, api.ErrForm}, "plus-": {5, api.ErrForm}, "plus-|": {5, api.ErrForm}, "plus-x": {5, api.ErrForm}, "plus--": {5, api.ErrForm}, "plus\n\t-,": {7, api.ErrForm}, "times -": {7, api.ErrForm}, "times -x": {7, api.ErrForm}, "times-": {6, api.ErrForm}, "times - 0": {7, api.ErrForm}, "neg | plus -|rev": {12, api.ErrForm}, "plus 2 | times -)": {16, api.ErrForm}, "plus -/": {6, api.ErrForm}, "plus -:": {6, api.ErrForm},
		"plus 00": {6, api.ErrForm}, "plus 01": {6, api.ErrForm}, "plus -00": {7, api.ErrForm}, "plus -01": {7, api.ErrForm}, "plus-07": {6, api.ErrForm}, "plus 007": {6, api.ErrForm}, "times 00": {7, api.ErrForm}, "times -00": {8, api.ErrForm}, "times 02": {7, api.ErrForm}, "plus 09223372036854775808": {6, api.ErrForm}, "plus -099999999999999999999": {7, api.ErrForm}, "neg|plus 01 | x": {10, api.ErrForm}, "times 0" + strings.Repeat("0", 100): {7, api.ErrForm},
		// It must be one of 64 bits, and of times not 0.
		"plus 9223372036854775808": {5, api.ErrNumber}, "plus -9223372036854775809": {5, api.ErrNumber}, "plus-9223372036854775809": {4, api.ErrNumber}, "times 18446744073709551616": {6, api.ErrNumber}, "times 18446744073709551617x": {6, api.ErrNumber}, "plus  99999999999999999999 | x": {6, api.ErrNumber}, "neg|plus 99999999999999999999": {9, api.ErrNumber}, "plus 9223372036854775808.5": {5, api.ErrNumber}, "plus " + strings.Repeat("9", 5000): {5, api.ErrNumber},
		"times 0": {6, api.ErrRange}, "times -0": {6, api.ErrRange}, "times-0": {5, api.ErrRange}, "times  0 | x": {7, api.ErrRange}, "times 0x": {6, api.ErrRange}, "times 0.5": {6, api.ErrRange}, "neg | times 0": {12, api.ErrRange},
		// A string must stand.
		"tag": {3, api.ErrForm}, "tag ": {4, api.ErrForm}, "tag a": {4, api.ErrForm}, "tag 'a'": {4, api.ErrForm}, "tag 1": {4, api.ErrForm}, "tag true": {4, api.ErrForm}, "tag null": {4, api.ErrForm}, "tag [": {4, api.ErrForm}, "tag{": {3, api.ErrForm}, "tag|neg": {3, api.ErrForm}, "tag -": {4, api.ErrForm}, "tag \xff": {4, api.ErrForm}, "tag 1.5": {4, api.ErrForm}, "tag tru": {4, api.ErrForm}, "tag\u00a0\"a\"": {3, api.ErrForm}, "neg | tag | neg": {10, api.ErrForm},
		`tag "`: {5, api.ErrForm}, `tag "a`: {6, api.ErrForm}, `tag "a\`: {7, api.ErrForm}, `tag "\q"`: {6, api.ErrForm}, "tag \"a\n\"": {6, api.ErrForm}, `tag "\u12"`: {9, api.ErrForm}, `tag "\u12g4"`: {9, api.ErrForm}, "tag \"\xff\"": {5, api.ErrUTF}, "tag \"a\xed\xa0\x80\"": {6, api.ErrUTF}, `tag "\ud800"`: {5, api.ErrLone}, `tag"a\udc00"`: {5, api.ErrLone}, `tag "\ud800\n"`: {5, api.ErrLone}, "neg|tag \"\xff": {9, api.ErrUTF}, `neg | tag  "ab\ud83d"`: {14, api.ErrLone}, `tag "a" | tag "`: {15, api.ErrForm},
	} {
		for _, ahead := range []string{"", "neg, ", "\xff\xfe|", "map(x\n"} {
			got, place, e := Prefix(ahead+s, len(ahead))
			if len(got) != 0 || place != len(ahead)+x.place || e != x.e {
				t.Errorf("Prefix(%.300q, %d): %+v, %d, %d; want %d, %d", ahead+s, len(ahead), got, place, e, len(ahead)+x.place, x.e)
			}
			checkText(t, ahead+s, len(ahead))
		}
	}
}

func TestPlaces(t *testing.T) { // P11.1 and R2
	for _, s := range []string{"", "x", "neg", "plus 01", "\xff", " ", "times 0"} {
		for _, at := range []int{-1, -2, len(s) + 1, len(s) + 2, 1 << 31, 1 << 32, -1 << 32, math.MinInt, math.MaxInt} {
			if got, place, e := Prefix(s, at); len(got) != 0 || place != 0 || e != api.ErrRange {
				t.Errorf("Prefix(%q, %d): %+v, %d, %d", s, at, got, place, e)
			}
		}
		if got, place, e := Prefix(s, len(s)); len(got) != 0 || place != len(s) || e != api.ErrForm {
			t.Errorf("Prefix(%q, its end): %+v, %d, %d", s, got, place, e)
		}
	}
}

// each hands on all texts of at most so many pieces.
func each(many int, pieces []string, do func(s string)) {
	var lay func(s string, many int)
	lay = func(s string, many int) {
		do(s)
		if many == 0 {
			return
		}
		for _, piece := range pieces {
			lay(s+piece, many-1)
		}
	}
	lay("", many)
}

func TestShortTexts(t *testing.T) { // P11.1
	less := 0
	if testing.Short() {
		less = 1
	}
	check := func(s string) { checkText(t, s, 0) }
	each(5-less, []string{"neg", "plus", "times", "tag", "x", "|", " ", "0", "1", "-", `"a"`, `"`, "_", ","}, check)
	each(6-less, []string{"neg", "plus", "|", " ", "0", "2", "-"}, check)
	each(6-less, []string{"times", "|", " ", "0", "2", "-", "rev"}, check)
	each(6-less, []string{"tag", "|", " ", `"`, `\`, "n", "\xff"}, check)
	each(6-less, []string{"n", "e", "g", "|", " ", "_", "1"}, check)
	each(7-less, []string{"neg", "|", " ", "\n", "neg2"}, check)
	for _, name := range names {
		for at := range len(name) + 1 {
			for c := range 256 {
				one := string([]byte{byte(c)})
				check(name[:at] + one + name[at:])
				check(name[:at] + one)
				check(name[:at] + one + name[min(at+1, len(name)):] + ` 1`)
			}
		}
		for _, other := range names {
			check(name + other)
			check(name + " 3|" + other + ` "a"`)
			check(name + ` "a" | ` + other + " -4")
		}
		check(strings.ToUpper(name))
		check(strings.ToUpper(name[:1]) + name[1:])
	}
}

func TestEveryByte(t *testing.T) { // P11.1
	for _, s := range []string{
		" neg | plus -12|times 3 |tag \"k\\n\u00e9\\ud83d\\ude00\" | show, rest",
		"box|plus 0|tag\"\"|times -10\n|\tpairs |swap)",
		"plus -9223372036854775808 | times 9223372036854775807",
	} {
		for at := range len(s) + 1 {
			checkText(t, s[:at], 0, at)
			checkText(t, s, at)
			checkText(t, s[at:], 0)
			if at == len(s) {
				break
			}
			checkText(t, s[:at]+s[at+1:], 0, at)
			for c := range 256 {
				one := string([]byte{byte(c)})
				checkText(t, s[:at]+one+s[at+1:], 0, at)
				checkText(t, s[:at]+one+s[at:], 0, at)
			}
		}
	}
}

// written is isos' text, however written: numbers lead to what may vary.
func written(random *rand.Rand, l []Iso) string {
	blanks := func() string {
		var b strings.Builder
		for range random.Intn(3) {
			b.WriteByte(" \t\n\r"[random.Intn(4)])
		}
		return b.String()
	}
	var b strings.Builder
	for at, x := range l {
		if at > 0 {
			b.WriteString("|" + blanks())
		}
		b.WriteString(x.Name)
		switch digits := strconv.FormatInt(x.N, 10); x.Name {
		case "plus", "times":
			// A digit needs a blank ahead of it.
			if digits[0] != '-' {
				b.WriteString(" ")
			}
			b.WriteString(blanks() + digits)
		case "tag":
			b.WriteString(blanks() + writtenKey(random, x.Key))
		}
		if at < len(l)-1 {
			b.WriteString(blanks())
		}
	}
	return b.String()
}

// writtenKey is a key as a string, of which any point may stand by escapes.
func writtenKey(random *rand.Rand, key string) string {
	var b strings.Builder
	for _, r := range key {
		escape := fmt.Sprintf(`\u%04x`, r)
		if r > 0xFFFF {
			escape = fmt.Sprintf(`\u%04X\u%04x`, 0xD800+(r-0x10000)>>10, 0xDC00+(r-0x10000)&0x3FF)
		}
		if random.Intn(2) == 0 || r < ' ' || r == '"' || r == '\\' {
			b.WriteString(escape)
		} else {
			b.WriteRune(r)
		}
	}
	return `"` + b.String() + `"`
}

func TestDrawnTexts(t *testing.T) { // P11.1
	random := rand.New(rand.NewSource(1111))
	pieces := []string{"", " ", "|", "neg", "x", "0", "1", "-", `"`, "_", "99999999999999999999", "\xff", ",", "times 0", `"\ud800"`, "plus"}
	for range 30000 {
		var l []Iso
		for range 1 + random.Intn(5) {
			l = append(l, isos[random.Intn(len(isos))])
		}
		checkPrinted(t, l)
		s := written(random, l)
		if got, place, e := Prefix(" "+s+" ,|", 1); !slices.Equal(got, l) || place != 1+len(s) || e != api.OK {
			t.Errorf("Prefix(%q, 1): %+v, %d, %d; want %+v", " "+s+" ,|", got, place, e, l)
		}
		// Spoilt at a place.
		at, piece := random.Intn(len(s)+1), pieces[random.Intn(len(pieces))]
		checkText(t, s[:at]+piece+s[min(at+random.Intn(3), len(s)):], 0, at)
	}
}

func TestLongTexts(t *testing.T) { // P7 and P11.1
	const many = 1 << 18
	l := slices.Repeat([]Iso{plus(2), plain("show"), tagged("a"), plain("box")}, many/4)
	s := Print(l)
	if got, place, e := Prefix(s, 0); !slices.Equal(got, l) || place != len(s) || e != api.OK {
		t.Errorf("Prefix of many: %d, %d, %d", len(got), place, e)
	}
	if got, place, e := Prefix(s+" |", 0); len(got) != 0 || place != len(s)+2 || e != api.ErrForm {
		t.Errorf("Prefix of many, and no more: %d, %d, %d", len(got), place, e)
	}
	blank := strings.Repeat(" \n", many)
	if got, place, e := Prefix("neg"+blank+"|"+blank+"tag"+blank+`"a"`+blank, 0); !slices.Equal(got, []Iso{plain("neg"), tagged("a")}) || place != 3+1+3+3+3*len(blank) || e != api.OK {
		t.Errorf("Prefix of many blanks: %+v, %d, %d", got, place, e)
	}
	word := strings.Repeat("neg", many)
	if got, place, e := Prefix(" "+word, 0); len(got) != 0 || place != 1 || e != api.ErrName {
		t.Errorf("Prefix of a long word: %+v, %d, %d", got, place, e)
	}
	if got, place, e := Prefix(`tag "`+word+`"`, 0); !slices.Equal(got, []Iso{tagged(word)}) || place != len(word)+6 || e != api.OK {
		t.Errorf("Prefix of a long key: %d, %d, %d", len(got), place, e)
	}
	digits := strings.Repeat("1", many)
	if got, place, e := Prefix("plus -"+digits, 0); len(got) != 0 || place != 5 || e != api.ErrNumber {
		t.Errorf("Prefix of a long number: %+v, %d, %d", got, place, e)
	}
}

func FuzzTexts(f *testing.F) {
	for at, s := range []string{"plus 2 | show", ` tag "a\n" |rev`, "times -0", "neg|", "plus 01", `tag "\ud800"`, "x", "box|plus -9223372036854775809", "times 10 , neg"} {
		f.Add(s, at)
	}
	f.Fuzz(func(t *testing.T, s string, at int) {
		checkText(t, s, 0, len(s))
		if 0 <= at && at <= len(s) {
			checkText(t, s, at)
		}
		if l, _, e := Prefix(s, 0); e == api.OK {
			checkPrinted(t, l)
		}
	})
}
