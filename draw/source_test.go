package draw

import (
	"math/big"
	"math/rand"
	"slices"
	"testing"

	"cheval/api"
)

// strangeBounds are numbers that are no bounds.
var strangeBounds = numbers(0, -1, -2, -1<<31, -1<<32, least, least+1, 1<<32+1, 1<<32+2, 1<<33, most, most-1)

// bounds are numbers about which bounds begin and end, and some between.
var bounds = numbers(1, 2, 3, 7, 10, 16, 255, 1000, 1<<16, 1<<31-1, 1<<31, 1<<31+1, 4294967291, 1<<32-1, 1<<32)

// modulo is a number modulo a bound, from 0 on, by an endless number.
func modulo(n *big.Int, bound int) int {
	return int(new(big.Int).Mod(n, big.NewInt(int64(bound))).Int64())
}

// checkNext asks a source for a number, of which it has told as many up to now.
func checkNext(t *testing.T, s Source, bound, want, used int) {
	t.Helper()
	if n := s.Next(bound); n != want || n < 0 || n >= bound {
		t.Errorf("P12.1: number %d, below %d: %d, want %d", used, bound, n, want)
	}
	if many := s.Used(); many != used+1 {
		t.Errorf("P12.1: it told %d, but Used: %d", used+1, many)
	}
}

// checkNone asks a source for numbers below what is no bound: nothing comes, and nothing is counted.
func checkNone(t *testing.T, s Source) {
	t.Helper()
	used := s.Used()
	for _, bound := range strangeBounds {
		if n := s.Next(bound); n != 0 || s.Used() != used {
			t.Errorf("P12.1: a number below %d: %d; Used: %d, want %d", bound, n, s.Used(), used)
		}
	}
}

func TestScriptByHand(t *testing.T) { // P12.1
	l := numbers(0, 1, 9, 10, 11, 25, -1, -10, -11, -25, 1<<32, 1<<32+3, -1<<32-3, most, least)
	want := numbers(0, 1, 9, 0, 1, 5, 9, 0, 9, 5, 6, 9, 1, 7, 2, 0, 0, 0)
	s := Script(l)
	if n := s.Used(); n != 0 {
		t.Errorf("P12.1: Used at first: %d", n)
	}
	for at, n := range want {
		checkNext(t, s, 10, n, at)
	}
}

func TestScript(t *testing.T) { // P12.1
	for _, bound := range bounds {
		s := Script(edges)
		for at, n := range edges {
			checkNext(t, s, bound, modulo(big.NewInt(int64(n)), bound), at)
		}
		for at := range 20 {
			checkNext(t, s, bound, 0, len(edges)+at)
		}
	}
	random := rand.New(rand.NewSource(121))
	for range 500 {
		l := drawnList(random, 40)
		s := Script(l)
		for at, n := range l {
			bound := 1 + random.Intn(1<<32)>>random.Intn(33)
			checkNext(t, s, bound, modulo(big.NewInt(int64(n)), bound), at)
		}
		checkNext(t, s, 1<<32, 0, len(l))
	}
}

func TestScriptBehindItsLast(t *testing.T) { // P12.1
	for _, l := range [][]int{nil, {}, {5}, {5, 6, 7}} {
		s := Script(l)
		for at, n := range l {
			checkNext(t, s, 1<<32, n, at)
		}
		for at := range 5000 {
			checkNext(t, s, 1+at, 0, len(l)+at)
		}
	}
}

// TestScriptOfMany asks for more numbers than a sequence has.
func TestScriptOfMany(t *testing.T) { // P12.1
	l := make([]int, 1<<16)
	for at := range l {
		l[at] = at * 7
	}
	s := Script(l)
	for at := range l {
		checkNext(t, s, 1000, at*7%1000, at)
	}
	checkNext(t, s, 1000, 0, 1<<16)
}

func TestStrangeBounds(t *testing.T) { // P12.1
	s := Script(numbers(5, 6))
	for at, want := range numbers(5, 6, 0, 0) {
		checkNone(t, s)
		checkNext(t, s, 10, want, at)
	}
	checkNone(t, s)
	m, same := Mix(5), Mix(5)
	for at := range 20 {
		checkNone(t, m)
		checkNext(t, m, 1<<32, same.Next(1<<32), at)
	}
	checkNone(t, m)
}

// toldMix is what the words of the chapter tell of a mixer's first numbers, reckoned by endless numbers.
func toldMix(seed int64, many int) []*big.Int {
	hexadecimal := func(s string) *big.Int {
		n, _ := new(big.Int).SetString(s, 16)
		return n
	}
	cut := func(n *big.Int) *big.Int {
		return n.Mod(n, new(big.Int).Lsh(big.NewInt(1), 64))
	}
	turned := func(z *big.Int, by uint) *big.Int {
		return new(big.Int).Xor(z, new(big.Int).Rsh(z, by))
	}
	state := cut(big.NewInt(seed))
	var l []*big.Int
	for range many {
		state = cut(state.Add(state, hexadecimal("9E3779B97F4A7C15")))
		z := turned(state, 30)
		z = cut(z.Mul(z, hexadecimal("BF58476D1CE4E5B9")))
		z = turned(z, 27)
		z = cut(z.Mul(z, hexadecimal("94D049BB133111EB")))
		l = append(l, turned(z, 31))
	}
	return l
}

// seeds are some of all kinds.
var seeds = []int64{0, 1, -1, 2, 42, 1234567, 1 << 31, 1 << 32, -1 << 32, 1 << 62, least, least + 1, most, most - 1, -7046029254386353131, 7046029254386353131}

// TestMixByHand holds mixers against numbers that are known of this way of mixing.
func TestMixByHand(t *testing.T) { // P12.1
	for seed, known := range map[int64][]uint64{
		0:                    {0xE220A8397B1DCDAF, 0x6E789E6AA1B965F4, 0x06C45D188009454F, 0xF88BB8A8724C81EC, 0x1B39896A51A8749B},
		1234567:              {6457827717110365317, 3203168211198807973, 9817491932198370423, 4593380528125082431, 16408922859458223821},
		-7046029254386353131: {0x6E789E6AA1B965F4, 0x06C45D188009454F, 0xF88BB8A8724C81EC, 0x1B39896A51A8749B}, // the state of seed 0, one number on
	} {
		for _, bound := range bounds {
			s := Mix(seed)
			for at, n := range known {
				checkNext(t, s, bound, int(n%uint64(bound)), at)
			}
		}
	}
}

func TestMix(t *testing.T) { // P12.1
	random := rand.New(rand.NewSource(122))
	all := slices.Clone(seeds)
	for range 200 {
		all = append(all, int64(random.Uint64())>>random.Intn(64))
	}
	for _, seed := range all {
		s := Mix(seed)
		if n := s.Used(); n != 0 {
			t.Errorf("P12.1: Used at first: %d", n)
		}
		for at, n := range toldMix(seed, 60) {
			bound := bounds[random.Intn(len(bounds))]
			checkNext(t, s, bound, modulo(n, bound), at)
		}
	}
}

// TestMixGoesOn asks whether the bounds that were asked for don't matter to what comes next.
func TestMixGoesOn(t *testing.T) { // P12.1
	for _, seed := range seeds {
		for at, n := range toldMix(seed, 20) {
			for _, bound := range bounds {
				s := Mix(seed)
				for range at {
					s.Next(bound)
				}
				checkNext(t, s, 1<<32, modulo(n, 1<<32), at)
			}
		}
	}
}

// TestMixIsEven counts how often each number below a bound comes.
func TestMixIsEven(t *testing.T) { // P12.1
	s := Mix(12)
	many := make([]int, 10)
	for range 100000 {
		many[s.Next(10)]++
	}
	for n, often := range many {
		if often < 9500 || often > 10500 {
			t.Errorf("P12.1: %d comes %d times of 100000", n, often)
		}
	}
}

// TestSourcesAreApart asks two sources by turns, and others of the same.
func TestSourcesAreApart(t *testing.T) { // P8: R8
	for _, made := range []func() Source{
		func() Source { return Mix(7) },
		func() Source { return Script(numbers(1<<32-1, 5, -1, 17, most)) },
	} {
		var want []int
		alone := made()
		for range 8 {
			want = append(want, alone.Next(1<<32))
		}
		a, b := made(), made()
		for at, n := range want {
			checkNext(t, a, 1<<32, n, at)
			if at > 3 {
				checkNext(t, b, 1<<32, want[at-4], at-4)
			}
		}
		if alone.Used() != 8 || b.Used() != 4 {
			t.Errorf("R8: Used: %d and %d", alone.Used(), b.Used())
		}
	}
}

func TestScriptLeavesItsNumbers(t *testing.T) { // P8: R5 and R6
	l := roomy(3, 14, -5)
	s := Script(l)
	checkNext(t, s, 10, 3, 0)
	for at := range l[:cap(l)] {
		l[:cap(l)][at] = 8
	}
	checkNext(t, s, 10, 4, 1)
	checkNext(t, s, 10, 5, 2)
	checkNext(t, s, 10, 0, 3)
	for _, n := range l[:cap(l)] {
		if n != 8 {
			t.Errorf("R6: %v was changed", l[:cap(l)])
		}
	}
	for _, l := range [][]int{nil, {}} {
		checkNext(t, Script(l), 10, 0, 0)
	}
}

// teller is a source of this test's own: what it tells, and the bounds by which it was asked.
type teller struct {
	number int
	asked  []int
}

func (s *teller) Next(bound int) int {
	s.asked = append(s.asked, bound)
	return s.number
}

func (s *teller) Used() int { return len(s.asked) }

// sumOf is that of weights.
func sumOf(weights []int) int {
	sum := 0
	for _, weight := range weights {
		sum += weight
	}
	return sum
}

// checkWeigh asks for the place of one number, and whether the source was asked once, by the weights' sum.
func checkWeigh(t *testing.T, weights []int, number, want int) {
	t.Helper()
	s := &teller{number: number}
	before := slices.Clone(weights)
	if at, e := Weigh(s, weights); at != want || e != api.OK {
		t.Errorf("P12.1: Weigh %v of %d: %d, error %d, want %d", weights, number, at, e, want)
	}
	if !slices.Equal(s.asked, numbers(sumOf(before))) {
		t.Errorf("P12.1: Weigh %v asked %v", before, s.asked)
	}
	if !slices.Equal(weights, before) {
		t.Errorf("R6: Weigh has changed %v to %v", before, weights)
	}
}

// checkWeights goes through all numbers below the sum: each weight's place comes as often as it says, in order.
func checkWeights(t *testing.T, weights []int) {
	t.Helper()
	number := 0
	for at, weight := range weights {
		for range weight {
			checkWeigh(t, weights, number, at)
			number++
		}
	}
}

func TestWeigh(t *testing.T) { // P12.1
	for number, want := range numbers(0, 1, 1, 1, 1, 1, 1, 1, 1, 1) { // chapter 19's example
		checkWeigh(t, numbers(1, 9), number, want)
	}
	for number, want := range numbers(0, 0, 1, 2, 2, 2) {
		checkWeigh(t, numbers(2, 1, 3), number, want)
	}
	for _, weights := range [][]int{{1}, {1000}, {9, 1}, {1, 1}, {1000, 1}, {1, 1000}, {1000, 1000}, {5, 5, 5}, {1, 2, 3, 4}, {4, 3, 2, 1}, {999, 1, 999}, some(64, 1), some(63, 2), append(some(63, 1), 1000), append(numbers(1000), some(63, 1)...), some(64, 1000)} {
		checkWeights(t, weights)
	}
	for _, weights := range lists(4, 1, 2, 5)[1:] {
		checkWeights(t, weights)
	}
	checkWeights(t, roomy(3, 2))
}

// TestWeighBySources asks sources of the package.
func TestWeighBySources(t *testing.T) { // P12.1
	weights := numbers(1, 9)
	s := Script(numbers(0, 1, 2, 3, 4, 5, 6, 7, 8, 9, 10, 20, -1, -10))
	for asked, want := range numbers(0, 1, 1, 1, 1, 1, 1, 1, 1, 1, 0, 0, 1, 0, 0, 0) {
		if at, e := Weigh(s, weights); at != want || e != api.OK || s.Used() != asked+1 {
			t.Errorf("P12.1: place %d: %d, error %d; Used: %d", asked, at, e, s.Used())
		}
	}
	random := rand.New(rand.NewSource(123))
	for range 300 {
		weights := make([]int, 1+random.Intn(64))
		for at := range weights {
			weights[at] = 1 + random.Intn(1000)>>random.Intn(10)
		}
		seed := int64(random.Uint64())
		s, same := Mix(seed), Mix(seed)
		for asked := range 20 {
			number, want := same.Next(sumOf(weights)), 0
			for sumOf(weights[:want+1]) <= number {
				want++
			}
			if at, e := Weigh(s, weights); at != want || e != api.OK || s.Used() != asked+1 {
				t.Errorf("P12.1: Weigh %v of %d: %d, error %d, want %d; Used: %d", weights, number, at, e, want, s.Used())
			}
		}
	}
}

func TestWrongWeights(t *testing.T) { // P12.1, R2, R3 and R4
	set := func(l []int, at, n int) []int {
		l[at] = n
		return l
	}
	for _, x := range []struct {
		weights []int
		want    api.Errno
	}{
		{nil, api.ErrEmpty}, {[]int{}, api.ErrEmpty}, {numbers(1, 2)[:0], api.ErrEmpty},
		{numbers(0), api.ErrRange}, {numbers(-1), api.ErrRange}, {numbers(1001), api.ErrRange}, {numbers(1 << 32), api.ErrRange}, {numbers(most), api.ErrRange}, {numbers(least), api.ErrRange},
		{numbers(0, 1), api.ErrRange}, {numbers(1, 0), api.ErrRange}, {numbers(5, 1001, 5), api.ErrRange}, {numbers(5, -5), api.ErrRange}, {numbers(most, most), api.ErrRange}, {numbers(least, least, 1), api.ErrRange}, {numbers(1, 2, 3, -6), api.ErrRange},
		{some(65, 1), api.ErrRange}, {some(65, 0), api.ErrRange}, {some(66, 1000), api.ErrRange}, {some(1<<16, 1), api.ErrRange},
		{set(some(64, 1), 63, 0), api.ErrRange}, {set(some(64, 1), 0, 1001), api.ErrRange}, {set(some(65, 1), 64, 0), api.ErrRange},
	} {
		mixed, fresh := Mix(3), Mix(3)
		for _, s := range []Source{&teller{}, Script(numbers(5)), mixed} {
			if at, e := Weigh(s, x.weights); at != 0 || e != x.want {
				t.Errorf("P12.1: Weigh %v: %d, error %d, want %d", x.weights[:min(len(x.weights), 70)], at, e, x.want)
			}
			if s.Used() != 0 {
				t.Errorf("P12.1: beside error %d the source was asked", x.want)
			}
		}
		checkNext(t, mixed, 1<<32, fresh.Next(1<<32), 0)
	}
}

// TestStrangeSources weighs numbers that no source may tell: of these no more is promised than that it ends, but what comes is a place.
func TestStrangeSources(t *testing.T) { // P7
	for _, weights := range [][]int{{1}, {1, 9}, {1000, 1, 5}, some(64, 1000)} {
		for _, n := range append(numbers(sumOf(weights), sumOf(weights)+1), edges...) {
			at, e := Weigh(&teller{number: n}, weights)
			if at < 0 || at >= len(weights) || e != api.OK {
				t.Errorf("P7: Weigh %v of %d: %d, error %d", weights, n, at, e)
			}
		}
	}
}

// FuzzNumbers asks whether any numbers are told, weighed, ordered and printed as the chapter says, and whether none panics (P7).
func FuzzNumbers(f *testing.F) {
	f.Add(int64(0), int64(1), int64(2), 10)
	f.Add(int64(least), int64(most), int64(-1), 1<<32)
	f.Add(int64(1<<32), int64(5), int64(-1<<32), 0)
	f.Fuzz(func(t *testing.T, a, b, c int64, bound int) {
		l := numbers(int(a), int(b), int(c))
		checkPrint(t, l)
		checkGood(t, l, isDraw(big.NewInt(a)) && isDraw(big.NewInt(b)) && isDraw(big.NewInt(c)))
		checkOrder(t, l[:2], l[1:], slices.Compare([]string{filled(l[:2])}, []string{filled(l[1:])}))
		s, m := Script(l), Mix(a)
		if bound < 1 || bound > 1<<32 {
			if s.Next(bound) != 0 || m.Next(bound) != 0 || s.Used() != 0 || m.Used() != 0 {
				t.Errorf("P12.1: %d is no bound", bound)
			}
			return
		}
		for at, n := range l {
			checkNext(t, s, bound, modulo(big.NewInt(int64(n)), bound), at)
		}
		for at, n := range toldMix(a, 5) {
			checkNext(t, m, bound, modulo(n, bound), at)
		}
		weights := numbers(1+modulo(big.NewInt(a), 1000), 1+modulo(big.NewInt(b), 1000), 1+modulo(big.NewInt(c), 1000))
		number, want := modulo(big.NewInt(int64(bound)), sumOf(weights)), 0
		for sumOf(weights[:want+1]) <= number {
			want++
		}
		checkWeigh(t, weights, number, want)
	})
}
