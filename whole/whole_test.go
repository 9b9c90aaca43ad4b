package whole

import (
	"math"
	"math/big"
	"regexp"
	"slices"
	"strings"
	"testing"

	"cheval/api"
)

// edges are integers about which sums, products and quotients cease to be some.
var edges = nearby(
	math.MinInt64, math.MinInt64/2, math.MinInt64/3, -1<<33, -1<<32, -1<<31, -3037000500, -10, -7, -2,
	0, 2, 7, 10, 3037000500, 1<<31, 1<<32, 1<<33, math.MaxInt64/3, math.MaxInt64/2, math.MaxInt64,
)

// nearby are numbers and those beside them, wrapped round at the ends, rising.
func nearby(l ...int64) []int64 {
	var all []int64
	for _, n := range l {
		all = append(all, n-2, n-1, n, n+1, n+2)
	}
	slices.Sort(all)
	return slices.Compact(all)
}

// judged is what a call must answer if its result has to be an integer.
func judged(n *big.Int) (int64, api.Errno) {
	if !n.IsInt64() {
		return 0, api.ErrOver
	}
	return n.Int64(), api.OK
}

// numberText is a number's text, by the chapter's words.
var numberText = regexp.MustCompile(`\A-?(0|[1-9][0-9]*)\z`)

// parsed is what Parse must answer.
func parsed(s string) (int64, api.Errno) {
	if !numberText.MatchString(s) {
		return 0, api.ErrForm
	}
	n, _ := new(big.Int).SetString(s, 10)
	if !n.IsInt64() {
		return 0, api.ErrNumber
	}
	return n.Int64(), api.OK
}

func checkParse(t *testing.T, s string) {
	t.Helper()
	want, wrong := parsed(s)
	if n, e := Parse(s); n != want || e != wrong {
		t.Errorf("P2.1: Parse(%.60q): %d, error %d, want %d, error %d", s, n, e, want, wrong)
	}
}

func TestParse(t *testing.T) { // P2.1
	for s, want := range map[string]int64{
		"0": 0, "-0": 0, "1": 1, "-1": -1, "9": 9, "10": 10, "-10": -10, "100": 100, "120034": 120034,
		"999999999999999999": 999999999999999999, "1000000000000000000": 1000000000000000000,
		"9223372036854775806": math.MaxInt64 - 1, "9223372036854775807": math.MaxInt64,
		"-9223372036854775807": math.MinInt64 + 1, "-9223372036854775808": math.MinInt64,
	} {
		if n, e := Parse(s); n != want || e != api.OK {
			t.Errorf("P2.1: Parse(%q): %d, error %d", s, n, e)
		}
	}
}

func TestParseOfOtherForms(t *testing.T) { // P2.1
	nines := strings.Repeat("9", 40)
	for _, s := range []string{
		"", "-", "--1", "-+1", "+0", "+1", "00", "01", "-00", "-01", "007", "1-", "1-1", " 1", "1 ", "1\n", "\t1", "- 1", "1 2",
		"1.0", "0.", ".5", "1e3", "1E3", "0x1F", "0b1", "0o7", "1_000", "1,000", "a", "1a", "a1", "nil", "NaN", "Infinity", "/", ":", "0/", "0:", "1\x00", "\x00",
		"\x80", "1\xFF", "\xC0\xB1", "\uFFFD", "\u0661", "\uFF11", "1\uFF10", "\u2212" + "1", "\U0001D7CF", "\u0130", "1\u0130",
		// The form is looked at ahead of the range.
		nines + "x", "-" + nines + ".", "0" + nines, "-0" + nines, nines + "\xFF", "9223372036854775808 ",
		strings.Repeat("0", 40), "0" + strings.Repeat("0", 40) + "1",
	} {
		if n, e := Parse(s); n != 0 || e != api.ErrForm {
			t.Errorf("P2.1: Parse(%q): %d, error %d", s, n, e)
		}
	}
}

func TestParseOfOtherNumbers(t *testing.T) { // P2.1
	for _, s := range []string{
		"9223372036854775808", "-9223372036854775809", "9223372036854775810", "-9223372036854775810",
		"9999999999999999999", "-9999999999999999999", "10000000000000000000", "18446744073709551615", "18446744073709551616",
		"-18446744073709551616", "18446744073709551617", "27670116110564327424", "340282366920938463463374607431768211456",
		"1" + strings.Repeat("0", 64), "-1" + strings.Repeat("0", 1<<16),
	} {
		if n, e := Parse(s); n != 0 || e != api.ErrNumber {
			t.Errorf("P2.1: Parse(%.60q): %d, error %d", s, n, e)
		}
	}
}

// TestParseOfShortTexts goes through all texts of up to five of some bytes.
func TestParseOfShortTexts(t *testing.T) { // P2.1
	l := []string{""}
	for at := 0; at < len(l); at++ {
		checkParse(t, l[at])
		if len(l[at]) == 5 {
			continue
		}
		for _, c := range []byte("-+01289. e\xFF") {
			l = append(l, l[at]+string([]byte{c}))
		}
	}
	for b := range 256 {
		checkParse(t, string([]byte{byte(b)}))
		checkParse(t, string([]byte{'1', byte(b)}))
		checkParse(t, string([]byte{'-', byte(b)}))
		checkParse(t, string([]byte{'4', byte(b), '2'}))
	}
}

func TestTextAndBack(t *testing.T) { // P2.1 and P2.2
	look := func(n int64) {
		s := Text(n)
		if s != big.NewInt(n).String() {
			t.Fatalf("P2.1: Text(%d): %q", n, s)
		}
		if again, e := Parse(s); again != n || e != api.OK {
			t.Fatalf("P2.2: %q is parsed as %d, error %d", s, again, e)
		}
	}
	for n := int64(-100000); n <= 100000; n++ {
		look(n)
	}
	for _, n := range edges {
		look(n)
	}
	power := int64(1)
	for range 18 {
		power *= 10
		for _, n := range nearby(power, -power) {
			look(n)
		}
	}
}

func TestTextByHand(t *testing.T) { // P2.1
	for n, want := range map[int64]string{0: "0", 7: "7", -7: "-7", 10: "10", -100: "-100", math.MaxInt64: "9223372036854775807", math.MinInt64: "-9223372036854775808"} {
		if s := Text(n); s != want {
			t.Errorf("P2.1: Text(%d): %q", n, s)
		}
	}
}

// TestOfTwo holds the calls of two integers against numbers that know no end.
func TestOfTwo(t *testing.T) { // P2.1
	for _, a := range edges {
		for _, b := range edges {
			checkTwo(t, a, b)
		}
	}
	for a := int64(-130); a <= 130; a++ {
		for b := int64(-130); b <= 130; b++ {
			checkTwo(t, a, b)
		}
	}
}

func checkTwo(t *testing.T, a, b int64) {
	t.Helper()
	x, y := big.NewInt(a), big.NewInt(b)
	check := func(name string, n int64, e api.Errno, right *big.Int) {
		t.Helper()
		if want, wrong := judged(right); n != want || e != wrong {
			t.Fatalf("P2.1: %s(%d, %d): %d, error %d, want %d, error %d", name, a, b, n, e, want, wrong)
		}
	}
	n, e := Add(a, b)
	check("Add", n, e, new(big.Int).Add(x, y))
	n, e = Sub(a, b)
	check("Sub", n, e, new(big.Int).Sub(x, y))
	n, e = Mul(a, b)
	check("Mul", n, e, new(big.Int).Mul(x, y))
	if b == 0 {
		return
	}
	n, e = Div(a, b)
	check("Div", n, e, new(big.Int).Quo(x, y))
	n, e = Mod(a, b)
	check("Mod", n, e, new(big.Int).Rem(x, y))
}

func TestOfTwoByHand(t *testing.T) { // P2.1
	const least, most = math.MinInt64, math.MaxInt64
	for _, x := range []struct {
		name string
		call func(a, b int64) (int64, api.Errno)
		a, b int64
		want int64
		e    api.Errno
	}{
		{"Add", Add, 3, 4, 7, api.OK}, {"Add", Add, most, 1, 0, api.ErrOver}, {"Add", Add, least, -1, 0, api.ErrOver}, {"Add", Add, least, most, -1, api.OK}, {"Add", Add, least, least, 0, api.ErrOver},
		{"Sub", Sub, 3, 4, -1, api.OK}, {"Sub", Sub, least, 1, 0, api.ErrOver}, {"Sub", Sub, 0, least, 0, api.ErrOver}, {"Sub", Sub, -1, least, most, api.OK}, {"Sub", Sub, least, least, 0, api.OK}, {"Sub", Sub, most, -1, 0, api.ErrOver},
		{"Mul", Mul, 3, -4, -12, api.OK}, {"Mul", Mul, least, -1, 0, api.ErrOver}, {"Mul", Mul, -1, least, 0, api.ErrOver}, {"Mul", Mul, least, 0, 0, api.OK}, {"Mul", Mul, 0, least, 0, api.OK}, {"Mul", Mul, least, 1, least, api.OK}, {"Mul", Mul, 1 << 32, 1 << 32, 0, api.ErrOver}, {"Mul", Mul, 1 << 32, -1 << 31, least, api.OK}, {"Mul", Mul, 1 << 31, 1 << 32, 0, api.ErrOver},
		{"Div", Div, 7, 2, 3, api.OK}, {"Div", Div, -7, 2, -3, api.OK}, {"Div", Div, 7, -2, -3, api.OK}, {"Div", Div, -7, -2, 3, api.OK}, {"Div", Div, least, -1, 0, api.ErrOver}, {"Div", Div, least, 1, least, api.OK}, {"Div", Div, most, -1, -most, api.OK}, {"Div", Div, 1, least, 0, api.OK},
		{"Mod", Mod, 7, 2, 1, api.OK}, {"Mod", Mod, -7, 2, -1, api.OK}, {"Mod", Mod, 7, -2, 1, api.OK}, {"Mod", Mod, -7, -2, -1, api.OK}, {"Mod", Mod, least, -1, 0, api.OK}, {"Mod", Mod, 5, least, 5, api.OK},
	} {
		if n, e := x.call(x.a, x.b); n != x.want || e != x.e {
			t.Errorf("P2.1: %s(%d, %d): %d, error %d", x.name, x.a, x.b, n, e)
		}
	}
}

func TestByZero(t *testing.T) { // P2.1
	for _, a := range edges {
		if n, e := Div(a, 0); n != 0 || e != api.ErrZero {
			t.Errorf("P2.1: Div(%d, 0): %d, error %d", a, n, e)
		}
		if n, e := Mod(a, 0); n != 0 || e != api.ErrZero {
			t.Errorf("P2.1: Mod(%d, 0): %d, error %d", a, n, e)
		}
	}
}

func TestNeg(t *testing.T) { // P2.1
	for _, a := range edges {
		want, wrong := judged(new(big.Int).Neg(big.NewInt(a)))
		if n, e := Neg(a); n != want || e != wrong {
			t.Errorf("P2.1: Neg(%d): %d, error %d", a, n, e)
		}
	}
	if n, e := Neg(math.MinInt64); n != 0 || e != api.ErrOver {
		t.Errorf("P2.1: Neg of the least integer: %d, error %d", n, e)
	}
}

func checkSum(t *testing.T, l []int64) {
	t.Helper()
	all := new(big.Int)
	for _, n := range l {
		all.Add(all, big.NewInt(n))
	}
	want, wrong := judged(all)
	if n, e := Sum(l); n != want || e != wrong {
		t.Fatalf("P2.1: Sum(%d): %d, error %d, want %d, error %d", l, n, e, want, wrong)
	}
}

// TestSum goes through all lists of up to four of some integers, and of three of the edges.
func TestSum(t *testing.T) { // P2.1
	checkSum(t, nil)
	few := []int64{math.MinInt64, -1, 0, 1, 1 << 62, math.MaxInt64}
	for _, a := range few {
		checkSum(t, []int64{a})
		for _, b := range few {
			for _, c := range few {
				for _, d := range few {
					checkSum(t, []int64{a, b, c, d})
				}
			}
		}
	}
	for _, a := range edges {
		for _, b := range edges {
			checkSum(t, []int64{a, b})
			for _, c := range edges {
				checkSum(t, []int64{a, b, c})
			}
		}
	}
}

func TestSumThatComesBack(t *testing.T) { // P2.1
	const least, most = math.MinInt64, math.MaxInt64
	for _, x := range []struct {
		l    []int64
		want int64
		e    api.Errno
	}{
		{[]int64{most, 1, -1}, most, api.OK}, {[]int64{least, -1, 1}, least, api.OK}, {[]int64{most, most, least, least, 2}, 0, api.OK},
		{[]int64{most, 1}, 0, api.ErrOver}, {[]int64{least, -1}, 0, api.ErrOver}, {[]int64{least, least}, 0, api.ErrOver}, {[]int64{most, most, 2}, 0, api.ErrOver},
		{[]int64{least, most}, -1, api.OK}, {[]int64{1, 2, 3}, 6, api.OK}, {[]int64{0}, 0, api.OK},
	} {
		if n, e := Sum(x.l); n != x.want || e != x.e {
			t.Errorf("P2.1: Sum(%d): %d, error %d", x.l, n, e)
		}
	}
	// Many turns: of 2^16 greatest and as many least integers there are left 2^16 less ones.
	var l []int64
	for range 1 << 16 {
		l = append(l, most)
	}
	for range 1 << 16 {
		l = append(l, least)
	}
	checkSum(t, l)
	checkSum(t, l[1:])
	checkSum(t, l[:len(l)-1])
	slices.Reverse(l)
	checkSum(t, l)
}

func TestSumLeavesItsArgument(t *testing.T) { // P8: R5, R6 and R8
	roomy := []int64{1, 2, math.MaxInt64, 4}
	for range 2 {
		if n, e := Sum(roomy[:2]); n != 3 || e != api.OK {
			t.Errorf("R8: Sum: %d, error %d", n, e)
		}
		if n, e := Sum(roomy); n != 0 || e != api.ErrOver {
			t.Errorf("R3: Sum: %d, error %d", n, e)
		}
	}
	if !slices.Equal(roomy, []int64{1, 2, math.MaxInt64, 4}) {
		t.Error("R6: Sum has changed its argument")
	}
	for _, l := range [][]int64{nil, {}} {
		if n, e := Sum(l); n != 0 || e != api.OK {
			t.Errorf("R5: Sum of nothing: %d, error %d", n, e)
		}
	}
}

func checkCount(t *testing.T, low, high int64) {
	t.Helper()
	many := new(big.Int).Sub(big.NewInt(high), big.NewInt(low))
	many.Add(many, big.NewInt(1))
	want, wrong := 0, api.OK
	switch {
	case many.Sign() <= 0:
	case many.Cmp(big.NewInt(api.MaxBound)) > 0:
		wrong = api.ErrOver
	default:
		want = int(many.Int64())
	}
	if n, e := Count(low, high); n != want || e != wrong {
		t.Errorf("P2.1: Count(%d, %d): %d, error %d, want %d, error %d", low, high, n, e, want, wrong)
	}
}

func TestCount(t *testing.T) { // P2.1
	for _, low := range edges {
		for _, high := range edges {
			checkCount(t, low, high)
		}
		for _, apart := range nearby(-1<<32, -1<<31, -1, 0, 1<<31, 1<<32, 1<<33, math.MaxInt64) {
			checkCount(t, low, low+apart)
		}
	}
}

func TestCountByHand(t *testing.T) { // P2.1
	const least, most = math.MinInt64, math.MaxInt64
	for _, x := range []struct {
		low, high int64
		want      int
		e         api.Errno
	}{
		{0, 9, 10, api.OK}, {5, 5, 1, api.OK}, {5, 4, 0, api.OK}, {-3, 3, 7, api.OK}, {most, most, 1, api.OK}, {least, least, 1, api.OK},
		{most, least, 0, api.OK}, {1, 0, 0, api.OK}, {least, most, 0, api.ErrOver}, {-1, most, 0, api.ErrOver}, {0, most, 0, api.ErrOver}, {least, -1, 0, api.ErrOver}, {least, 0, 0, api.ErrOver},
		{0, 1<<32 - 2, 1<<32 - 1, api.OK}, {0, 1<<32 - 1, 1 << 32, api.OK}, {1, 1 << 32, 1 << 32, api.OK}, {0, 1 << 32, 0, api.ErrOver}, {0, 1<<32 + 1, 0, api.ErrOver},
		{least, least + 1<<32 - 1, 1 << 32, api.OK}, {least, least + 1<<32, 0, api.ErrOver}, {most - 1<<32 + 1, most, 1 << 32, api.OK}, {most - 1<<32, most, 0, api.ErrOver}, {-1 << 31, 1<<31 - 1, 1 << 32, api.OK}, {-1 << 31, 1 << 31, 0, api.ErrOver},
	} {
		if n, e := Count(x.low, x.high); n != x.want || e != x.e {
			t.Errorf("P2.1: Count(%d, %d): %d, error %d", x.low, x.high, n, e)
		}
	}
}

// FuzzParse asks whether any bytes are parsed as the chapter says, and whether none panics (P7).
func FuzzParse(f *testing.F) {
	for _, s := range []string{"", "-", "0", "-0", "00", "12", "-9223372036854775808", "9223372036854775808", "1.5", "\xFF"} {
		f.Add(s)
	}
	f.Fuzz(func(t *testing.T, s string) {
		checkParse(t, s)
		if n, e := Parse(s); e == api.OK && s != "-0" && Text(n) != s {
			t.Errorf("P2.2: %q: its integer's text is %q", s, Text(n))
		}
	})
}

// FuzzIntegers asks whether any integers are reckoned with as the chapter says, and whether none panics (P7).
func FuzzIntegers(f *testing.F) {
	f.Add(int64(0), int64(0), int64(0))
	f.Add(int64(math.MinInt64), int64(-1), int64(math.MaxInt64))
	f.Add(int64(3037000500), int64(-3037000500), int64(1<<32))
	f.Fuzz(func(t *testing.T, a, b, c int64) {
		checkTwo(t, a, b)
		checkSum(t, []int64{a, b, c})
		checkSum(t, []int64{a, b, c, a, b, c, c})
		checkCount(t, a, b)
		checkCount(t, a, a+c%(1<<33))
		if n, e := Parse(Text(a)); n != a || e != api.OK {
			t.Errorf("P2.2: %d: %d, error %d", a, n, e)
		}
	})
}
