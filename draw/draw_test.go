package draw

import (
	"encoding/json"
	"fmt"
	"math"
	"math/big"
	"math/rand"
	"slices"
	"strconv"
	"strings"
	"testing"

	"cheval/api"
	"cheval/reader"
)

const (
	least = math.MinInt64
	most  = math.MaxInt64
)

// numbers are those that are listed.
func numbers(l ...int) []int { return l }

// some are as many of one number.
func some(many, n int) []int { return slices.Repeat(numbers(n), many) }

// roomy are numbers with spare room behind them, in which others stand.
func roomy(l ...int) []int {
	return append(slices.Clone(l), 71, 72, 73)[:len(l)]
}

// edges are numbers about which draws, bounds and integers end, rising.
var edges = nearby(least, -1<<33, -1<<32, -1<<31, 0, 10, 1000, 1<<31, 1<<32, 1<<33, most)

// nearby are numbers and those beside them, wrapped round at the ends, rising.
func nearby(l ...int) []int {
	var all []int
	for _, n := range l {
		all = append(all, n-2, n-1, n, n+1, n+2)
	}
	slices.Sort(all)
	return slices.Compact(all)
}

// bound is 2^32, as an endless number.
func bound() *big.Int { return new(big.Int).Lsh(big.NewInt(1), 32) }

// isDraw: is a number one, by the words of the chapter?
func isDraw(n *big.Int) bool {
	return n.Sign() >= 0 && n.Cmp(bound()) < 0
}

func checkGood(t *testing.T, l []int, want bool) {
	t.Helper()
	if ok := Good(l); ok != want {
		t.Errorf("P12.1: Good of %d numbers, %v: %t", len(l), l[:min(len(l), 20)], ok)
	}
}

func TestGood(t *testing.T) { // P12.1
	for _, l := range [][]int{nil, {}, {0}, {1}, {1<<32 - 1}, {0, 0}, {1<<32 - 1, 0, 1<<32 - 1}, {3, 7, 1, 8}, some(4095, 1), some(4096, 0), some(4096, 1<<32-1)} {
		checkGood(t, l, true)
	}
	for _, l := range [][]int{{-1}, {1 << 32}, {1<<32 + 1}, {least}, {most}, {0, -1}, {-1, 0}, {0, 1 << 32, 0}, {1 << 33}, {-1 << 32}, {-1<<32 + 1}, some(4097, 0), some(4097, -1), some(1<<17, 1)} {
		checkGood(t, l, false)
	}
	for _, n := range edges {
		for at := range 5 {
			l := some(5, 9)
			l[at] = n
			checkGood(t, l, isDraw(big.NewInt(int64(n))))
		}
	}
	for _, at := range numbers(0, 1, 2048, 4094, 4095) {
		for _, n := range numbers(-1, 1<<32) {
			l := some(4096, 1)
			l[at] = n
			checkGood(t, l, false)
		}
	}
	// What stands in spare room is none of them.
	checkGood(t, numbers(0, -1, 1<<32)[:1], true)
	checkGood(t, some(5000, 0)[:4096], true)
}

// lists are all of up to so many of some numbers, each ahead of the next: the numbers must be rising.
func lists(many int, from ...int) [][]int {
	all := [][]int{nil}
	first := 0
	for range many {
		behind := len(all)
		for _, l := range all[first:behind] {
			for _, n := range from {
				all = append(all, append(slices.Clone(l), n))
			}
		}
		first = behind
	}
	return all
}

func checkOrder(t *testing.T, a, b []int, want int) {
	t.Helper()
	if o := Order(a, b); o != want {
		t.Errorf("P12.2: Order(%v, %v): %d, want %d", a[:min(len(a), 20)], b[:min(len(b), 20)], o, want)
	}
	if o := Order(b, a); o != -want {
		t.Errorf("P12.2: Order(%v, %v): %d, want %d", b[:min(len(b), 20)], a[:min(len(a), 20)], o, -want)
	}
}

// checkRising: is each list ahead of all that follow, and like itself alone?
func checkRising(t *testing.T, all [][]int) {
	t.Helper()
	for at, a := range all {
		checkOrder(t, a, a, 0)
		checkOrder(t, a, roomy(a...), 0)
		for _, b := range all[at+1:] {
			checkOrder(t, a, b, -1)
		}
	}
}

func TestOrderByHand(t *testing.T) { // P12.1
	checkRising(t, [][]int{{}, {0}, {1}}) // the document's example
	checkRising(t, [][]int{
		{}, {least}, {-2}, {-1}, {0}, {1}, {2}, {9}, {10}, {1<<32 - 1}, {1 << 32}, {most},
		{least, most}, {-1, 5}, {0, -1}, {0, 0}, {0, 1}, {0, most}, {1, least}, {1, 0}, {1, 5}, {2, 1}, {9, 0}, {10, 0},
		{-1, -1, -1}, {0, 0, 0}, {0, 0, 9}, {0, 1, 0}, {0, 9, 0}, {1, 0, 0}, {5, 5, 5},
		some(4095, 9), some(4096, 0), append(some(4095, 0), 1), append(numbers(1), some(4095, 0)...), some(4096, 1), some(4097, least), some(4097, 0),
	})
	checkOrder(t, nil, []int{}, 0)
}

// TestOrder asks for any two of all short lists of some numbers.
func TestOrder(t *testing.T) { // P12.1 and P12.2
	checkRising(t, lists(5, 0, 1, 2))
	checkRising(t, lists(3, -1, 0, 10, 1<<32-1, 1<<32))
	checkRising(t, lists(2, least, least+1, -1<<32, -1, 0, 1, 10, 1<<31, 1<<32, most-1, most))
	checkRising(t, lists(1, edges...))
}

// filled is a text of a list, of which each has its own: the texts' order is that of the lists.
func filled(l []int) string {
	s := fmt.Sprintf("%05d", len(l))
	for _, n := range l {
		s += fmt.Sprintf(" %020d", uint64(n)+1<<63)
	}
	return s
}

// drawnList is one that numbers lead to.
func drawnList(random *rand.Rand, many int) []int {
	l := make([]int, random.Intn(many))
	for at := range l {
		l[at] = int(random.Uint64()) >> random.Intn(64)
	}
	return l
}

// TestOrderOfDrawn sorts drawn lists, and holds each against the next, and another one.
func TestOrderOfDrawn(t *testing.T) { // P12.2
	random := rand.New(rand.NewSource(12))
	var all [][]int
	for range 2000 {
		l := drawnList(random, 5)
		all = append(all, l, slices.Clone(l), append(numbers(-1), l...), append(slices.Clone(l), 0))
	}
	slices.SortFunc(all, Order)
	for at := 1; at < len(all); at++ {
		before, other := all[at-1], all[random.Intn(len(all))]
		if filled(before) > filled(all[at]) {
			t.Fatalf("P12.2: %v is sorted ahead of %v", before, all[at])
		}
		checkOrder(t, before, all[at], strings.Compare(filled(before), filled(all[at])))
		checkOrder(t, other, all[at], strings.Compare(filled(other), filled(all[at])))
	}
}

// told is what the words of the chapter tell of a text: the library reads it, if chapter 6 finds nothing wrong.
func told(s string) ([]int, int, api.Errno) {
	if _, place, e := reader.Parse(s, 1); e != api.OK {
		return nil, place, e
	}
	d := json.NewDecoder(strings.NewReader(s))
	d.UseNumber()
	var x any
	if d.Decode(&x) != nil {
		panic("the library reads no " + s)
	}
	items, ok := x.([]any)
	if !ok {
		return nil, 0, api.ErrForm
	}
	var l []*big.Int
	for _, item := range items {
		n, ok := item.(json.Number)
		if !ok {
			return nil, 0, api.ErrForm
		}
		whole, _ := new(big.Int).SetString(n.String(), 10)
		l = append(l, whole)
	}
	if len(l) > 4096 {
		return nil, 0, api.ErrLong
	}
	var draws []int
	for _, n := range l {
		if !isDraw(n) {
			return nil, 0, api.ErrDraw
		}
		draws = append(draws, int(n.Int64()))
	}
	return draws, 0, api.OK
}

func checkParse(t *testing.T, s string, want []int, place int, e api.Errno) {
	t.Helper()
	l, at, err := Parse(s)
	if !slices.Equal(l, want) || at != place || err != e {
		t.Errorf("P12.1: Parse(%.200q): %d numbers, %v, place %d, error %d, want %v, %d, %d", s, len(l), l[:min(len(l), 20)], at, err, want[:min(len(want), 20)], place, e)
	}
	if err == api.OK && !Good(l) {
		t.Errorf("P12.1: Parse(%.200q) is no sequence", s)
	}
}

// checkText holds Parse against the words.
func checkText(t *testing.T, s string) {
	t.Helper()
	want, place, e := told(s)
	checkParse(t, s, want, place, e)
}

// list is the text of an array of as many of one item.
func list(many int, item string) string {
	return "[" + strings.TrimSuffix(strings.Repeat(item+",", many), ",") + "]"
}

func TestParse(t *testing.T) { // P12.1
	for s, want := range map[string][]int{
		"[]": nil, " [ ] ": nil, "[0]": {0}, "[-0]": {0}, "[1]": {1}, "[3,7,1,8]": {3, 7, 1, 8}, "[8,1,7,3]": {8, 1, 7, 3}, "[5,5,5]": {5, 5, 5}, "\t[ 1 ,\n2\r] ": {1, 2},
		"[4294967295]": {1<<32 - 1}, "[4294967295,0,4294967295]": {1<<32 - 1, 0, 1<<32 - 1}, "[2147483647,2147483648]": {1<<31 - 1, 1 << 31}, "[10,9]": {10, 9},
		list(4096, "0"): some(4096, 0), list(4095, "17"): some(4095, 17), list(1489, "4294967295"): some(1489, 1<<32-1),
		strings.Repeat(" ", 16384-3) + "[7]": {7},
	} {
		checkParse(t, s, want, 0, api.OK)
		checkText(t, s)
	}
}

func TestParseOfOthers(t *testing.T) { // P12.1 and R2
	for _, x := range []struct {
		s     string
		place int
		e     api.Errno
	}{
		// Chapter 6's errors.
		{"", 0, api.ErrForm}, {"  ", 2, api.ErrForm}, {"[", 1, api.ErrForm}, {"[1", 2, api.ErrForm}, {"[1,]", 3, api.ErrForm}, {"[,1]", 1, api.ErrForm}, {"[1 2]", 3, api.ErrForm}, {"[01]", 2, api.ErrForm}, {"[+1]", 1, api.ErrForm}, {"[-]", 2, api.ErrForm}, {"1,2", 1, api.ErrForm}, {"[1] 2", 4, api.ErrForm}, {"[1][2]", 3, api.ErrForm}, {"]", 0, api.ErrForm}, {"(1)", 0, api.ErrForm}, {"[1;2]", 2, api.ErrForm}, {"[\x00]", 1, api.ErrForm}, {"[\xff]", 1, api.ErrForm}, {"3 7 1 8", 2, api.ErrForm},
		{"[\"\xff\"]", 2, api.ErrUTF}, {`["\ud800"]`, 2, api.ErrLone}, {"[1.0]", 1, api.ErrNumber}, {"[1e2]", 1, api.ErrNumber}, {"[0,9223372036854775808]", 3, api.ErrNumber}, {"[-9223372036854775809]", 1, api.ErrNumber}, {`{"a":1,"a":1}`, 7, api.ErrTwice},
		{"[[]]", 1, api.ErrDeep}, {"[1,{}]", 3, api.ErrDeep}, {"[[1]]", 1, api.ErrDeep}, {"[null, [", 7, api.ErrDeep}, {`{"a":[]}`, 5, api.ErrDeep}, {"[-1,[]]", 4, api.ErrDeep},
		{list(8192, "0"), 0, api.ErrLong}, {strings.Repeat(" ", 16384-1) + "[]", 0, api.ErrLong}, {strings.Repeat("x", 16385), 0, api.ErrLong}, {list(4096, "4294967295"), 0, api.ErrLong},
		// Values that are no arrays of integers.
		{"null", 0, api.ErrForm}, {" true", 0, api.ErrForm}, {"false", 0, api.ErrForm}, {"0", 0, api.ErrForm}, {" 17 ", 0, api.ErrForm}, {"-1", 0, api.ErrForm}, {`"[1]"`, 0, api.ErrForm}, {`""`, 0, api.ErrForm}, {"{}", 0, api.ErrForm}, {` {"0":1} `, 0, api.ErrForm},
		{"[null]", 0, api.ErrForm}, {"[1,true]", 0, api.ErrForm}, {"[false,1]", 0, api.ErrForm}, {`["1"]`, 0, api.ErrForm}, {`[1,2,""]`, 0, api.ErrForm}, {`[1,"a",2]`, 0, api.ErrForm},
		// Too many.
		{list(4097, "0"), 0, api.ErrLong}, {list(8191, "1"), 0, api.ErrLong},
		// Some that are no draws.
		{"[-1]", 0, api.ErrDraw}, {"[4294967296]", 0, api.ErrDraw}, {"[0,1,-1]", 0, api.ErrDraw}, {" [4294967296,0]", 0, api.ErrDraw}, {"[-9223372036854775808]", 0, api.ErrDraw}, {"[9223372036854775807]", 0, api.ErrDraw}, {"[0,-4294967295]", 0, api.ErrDraw}, {"[8589934592]", 0, api.ErrDraw}, {list(4096, "-1"), 0, api.ErrDraw},
		// One error behind another.
		{"[-1,null]", 0, api.ErrForm}, {"[null,4294967296]", 0, api.ErrForm}, {"[-1,1.5]", 4, api.ErrNumber}, {"[null,1.5]", 6, api.ErrNumber}, {"[4294967296,,]", 12, api.ErrForm},
		{list(4097, "-1"), 0, api.ErrLong}, {"[null" + strings.Repeat(",0", 4097) + "]", 0, api.ErrForm}, {"[" + strings.Repeat("0,", 4097) + "null]", 0, api.ErrForm}, {"[" + strings.Repeat("0,", 5000) + "[]]", 10001, api.ErrDeep},
	} {
		checkParse(t, x.s, nil, x.place, x.e)
		checkText(t, x.s)
	}
}

// texts are all of up to so many of some pieces.
func texts(many int, pieces ...string) []string {
	all := []string{""}
	first := 0
	for range many {
		behind := len(all)
		for _, s := range all[first:behind] {
			for _, piece := range pieces {
				all = append(all, s+piece)
			}
		}
		first = behind
	}
	return all
}

// TestParseOfShortTexts asks for all short texts of some pieces.
func TestParseOfShortTexts(t *testing.T) { // P12.1
	for _, s := range texts(6, "[", "]", ",", "0", "-1", "4294967296", " ") {
		checkText(t, s)
	}
	for _, s := range texts(4, "1", ",", "null", "[", "{}", `"a"`, "-4294967295", "4294967295", ".5", "\xff") {
		checkText(t, s)
		checkText(t, "["+s+"]")
	}
}

// TestParseOfBytes asks for every byte in each place of some texts.
func TestParseOfBytes(t *testing.T) { // P12.1
	for _, s := range []string{"", "[]", "[1]", "[1,2]", "[4294967295, 4294967296]", `["a"]`, `{"a":1}`} {
		for at := range len(s) + 1 {
			for b := range 256 {
				checkText(t, s[:at]+string([]byte{byte(b)})+s[at:])
				if at < len(s) {
					checkText(t, s[:at]+string([]byte{byte(b)})+s[at+1:])
				}
			}
		}
	}
}

func TestParseOfEdges(t *testing.T) { // P12.1
	for _, n := range edges {
		digits := strconv.Itoa(n)
		for _, s := range []string{"[" + digits + "]", "[0," + digits + "]", "[" + digits + ",0]", "[" + digits + ",null]", digits} {
			checkText(t, s)
		}
	}
}

func checkPrint(t *testing.T, l []int) {
	t.Helper()
	want, _ := json.Marshal(append([]int{}, l...))
	s := Print(l)
	if s != string(want) {
		t.Errorf("P12.1: Print of %d numbers, %v: %.200q", len(l), l[:min(len(l), 20)], s)
	}
	switch {
	case !Good(l):
	case len(s) > api.MaxText:
		checkParse(t, s, nil, 0, api.ErrLong)
	default:
		checkParse(t, s, l, 0, api.OK)
	}
}

func TestPrint(t *testing.T) { // P12.1
	for want, l := range map[string][]int{"[]": nil, "[0]": {0}, "[1,5]": {1, 5}, "[3,7,1,8]": {3, 7, 1, 8}, "[4294967295,0]": {1<<32 - 1, 0}, "[10,9,10]": {10, 9, 10}} {
		if s := Print(l); s != want {
			t.Errorf("P12.1: Print(%v): %q", l, s)
		}
		checkPrint(t, l)
	}
	for _, l := range lists(3, 0, 1, 9, 10, 1<<31, 1<<32-1) {
		checkPrint(t, l)
	}
	for _, l := range [][]int{{}, some(4096, 0), some(4095, 17), some(1489, 1<<32-1), some(1490, 1<<32-1), some(4096, 1<<32-1)} {
		checkPrint(t, l)
	}
	random := rand.New(rand.NewSource(120))
	for range 200 {
		l := drawnList(random, 300)
		for at, n := range l {
			l[at] = n & (1<<32 - 1)
		}
		checkPrint(t, l)
	}
}

// TestWrongNumbers prints numbers that are no sequences: of these no more is promised than that it ends, but they are told as they are.
func TestWrongNumbers(t *testing.T) { // P7
	for _, l := range lists(1, edges...) {
		checkPrint(t, l)
	}
	checkPrint(t, some(4097, 1))
	checkPrint(t, some(1<<16, least))
}

func TestSequencesAreLeft(t *testing.T) { // P8: R5, R6 and R8
	l, m := roomy(3, -1, 1<<32), roomy(3, 5, 0)
	for range 2 {
		if Good(l) || !Good(m) || Order(l, m) != -1 || Print(l) != "[3,-1,4294967296]" {
			t.Error("R8: another answer")
		}
	}
	if !slices.Equal(l[:6], numbers(3, -1, 1<<32, 71, 72, 73)) || !slices.Equal(m[:6], numbers(3, 5, 0, 71, 72, 73)) {
		t.Errorf("R6: %v and %v were changed", l[:6], m[:6])
	}
	if Print(nil) != Print([]int{}) || !Good(nil) || !Good([]int{}) || Order(nil, []int{}) != 0 {
		t.Error("R5: nil isn't as an empty list")
	}
	first, _, _ := Parse("[1,2,3]")
	second, _, _ := Parse("[1,2,3]")
	for at := range first[:cap(first)] {
		first[:cap(first)][at] = 9
	}
	if !slices.Equal(second, numbers(1, 2, 3)) {
		t.Errorf("R6: %v shares another answer's memory", second)
	}
	checkParse(t, "[1,2,3]", numbers(1, 2, 3), 0, api.OK)
}

// FuzzTexts asks whether any bytes are read as the chapter says, and whether none panics (P7).
func FuzzTexts(f *testing.F) {
	for _, s := range []string{"", "[]", "[0]", "[3,7,1,8]", "[-1]", "[4294967296]", "[null]", "[[]]", "{}", "[1.5]", "\xff", list(4097, "0")} {
		f.Add(s)
	}
	f.Fuzz(func(t *testing.T, s string) {
		checkText(t, s)
		if l, _, e := Parse(s); e == api.OK {
			checkParse(t, Print(l), l, 0, api.OK)
		}
	})
}
