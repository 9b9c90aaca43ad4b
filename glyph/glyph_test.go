package glyph

import (
	"math"
	"slices"
	"testing"
)

// strange numbers are no points: they lie beside points, or seem some when they are cut to fewer bits.
var strange = []int{-1, -0x61, 0xD800, 0xDBFF, 0xDC00, 0xDFFF, 0x110000, 1 << 31, 1<<32 + 0x61, -1<<32 + 0x61, math.MinInt, math.MaxInt}

// samples are texts about each edge that the document names.
var samples = []string{"", "\x00", "a", "ab", "b", "\x7F", "\u0080", "a\u0080", "\u07FF", "\u0800", "\uD7FF", "\uE000", "\uFFFD", "\uFFFD\uFFFD", "\uFFFF", "\uFFFFa", "\U00010000", "\U0001F600", "a\u00e9\u20ac\U0001F600", "\U0010FFFF", "\U0010FFFF\x00"}

// points are all there are, from the least one on.
func points() []int {
	var l []int
	for n := 0; n < 0xD800; n++ {
		l = append(l, n)
	}
	for n := 0xE000; n <= 0x10FFFF; n++ {
		l = append(l, n)
	}
	return l
}

// spelt is a point's bytes, by UTF-8's own bits.
func spelt(n int) string {
	more := func(by int) byte { return byte(0x80 | n>>by&0x3F) }
	switch {
	case n < 0x80:
		return string([]byte{byte(n)})
	case n < 0x800:
		return string([]byte{byte(0xC0 | n>>6), more(0)})
	case n < 0x10000:
		return string([]byte{byte(0xE0 | n>>12), more(6), more(0)})
	}
	return string([]byte{byte(0xF0 | n>>18), more(12), more(6), more(0)})
}

func TestIsAndEncodeOfPoints(t *testing.T) { // P1.1
	for _, n := range points() {
		if !Is(n) {
			t.Fatalf("P1.1: Is(%x): false", n)
		}
		if s := Encode(n); s != spelt(n) {
			t.Fatalf("P1.1: Encode(%x): %x, want %x", n, s, spelt(n))
		}
	}
}

func TestIsAndEncodeOfOthers(t *testing.T) { // P1.1
	for _, n := range strange {
		if Is(n) {
			t.Errorf("P1.1: Is(%x): true", n)
		}
		if s := Encode(n); s != "" {
			t.Errorf("P1.1: Encode(%x): %x", n, s)
		}
	}
	for n := 0xD800; n <= 0xDFFF; n++ {
		if Is(n) || Encode(n) != "" {
			t.Fatalf("P1.1: %x is a half", n)
		}
	}
}

func TestDecodeOfPoints(t *testing.T) { // P1.1
	for _, n := range points() {
		own := spelt(n)
		for _, behind := range []string{"", "a", "\x80", "\xFF", "\uFFFD", "\xC3"} {
			if m, many := Decode(own + behind); m != n || many != len(own) {
				t.Fatalf("P1.1: Decode(%x): %x, %d", own+behind, m, many)
			}
		}
	}
}

// TestDecodeOfAnyBytes goes through all of up to two bytes, and those of three and four at the edges.
func TestDecodeOfAnyBytes(t *testing.T) { // P1.1
	all := map[string]int{}
	for _, n := range points() {
		all[spelt(n)] = n
	}
	look := func(s string) {
		want, size := -1, 0
		for i := 1; i <= len(s); i++ {
			if n, ok := all[s[:i]]; ok {
				want, size = n, i
				break
			}
		}
		if n, many := Decode(s); n != want || many != size {
			t.Fatalf("P1.1: Decode(%x): %x, %d, want %x, %d", s, n, many, want, size)
		}
	}
	edges := []byte{0x00, 0x22, 0x7F, 0x80, 0x8F, 0x90, 0x9F, 0xA0, 0xBD, 0xBF, 0xC0, 0xC2, 0xE0, 0xED, 0xEF, 0xF0, 0xF4, 0xF5, 0xFF}
	look("")
	for a := range 256 {
		look(string([]byte{byte(a)}))
		for b := range 256 {
			look(string([]byte{byte(a), byte(b)}))
			for _, c := range edges {
				look(string([]byte{byte(a), byte(b), c}))
			}
		}
		for _, b := range edges {
			for _, c := range edges {
				for _, d := range edges {
					look(string([]byte{byte(a), b, c, d}))
				}
			}
		}
	}
}

func TestValidAndPointsOfTexts(t *testing.T) { // P1.1
	for _, s := range samples {
		if at, ok := Valid(s); at != 0 || !ok {
			t.Errorf("P1.1: Valid(%q): %d, %t", s, at, ok)
		}
		want := []int{}
		for _, r := range s {
			want = append(want, int(r))
		}
		if l, ok := Points(s); !ok || !slices.Equal(l, want) {
			t.Errorf("P1.1: Points(%q): %x, %t", s, l, ok)
		}
	}
}

func TestValidAndPointsOfOtherBytes(t *testing.T) { // P1.1
	bad := []string{
		"\x80", "\xBF", "\xC0\x80", "\xC1\xBF", "\xC3", "\xC3a", "\xE0\x9F\xBF", "\xE2\x82", "\xED\xA0\x80", "\xED\xBF\xBF", "\xEF", "\xEF\xBF", "\xEF\xBFa", "\xEF\xBD\xFD",
		"\xF0\x8F\xBF\xBF", "\xF0\x9F\x98", "\xF4\x90\x80\x80", "\xF5\x80\x80\x80", "\xF8\x88\x80\x80\x80", "\xFE", "\xFF", "\xED\xA0\xBD\xED\xB8\x80",
	}
	for _, ahead := range samples {
		for _, b := range bad {
			for _, behind := range []string{"", "a", "\uFFFD", "\xFF", "\U0010FFFF"} {
				s := ahead + b + behind
				if at, ok := Valid(s); at != len(ahead) || ok {
					t.Fatalf("P1.1: Valid(%x): %d, %t, want %d, false", s, at, ok, len(ahead))
				}
				if l, ok := Points(s); ok || len(l) != 0 {
					t.Fatalf("P1.1: Points(%x): %x, %t", s, l, ok)
				}
			}
		}
	}
}

func TestTextOfOtherNumbers(t *testing.T) { // P1.1
	for _, n := range strange {
		for _, l := range [][]int{{n}, {0x61, n}, {n, 0x61}, {0x61, n, 0x61}} {
			if s, ok := Text(l); ok || s != "" {
				t.Errorf("P1.1: Text(%x): %q, %t", l, s, ok)
			}
		}
	}
}

func TestPairAndHalves(t *testing.T) { // P1.1
	n := 0x10000
	for high := 0xD800; high <= 0xDBFF; high++ {
		for low := 0xDC00; low <= 0xDFFF; low++ {
			if m := Pair(high, low); m != n {
				t.Fatalf("P1.1: Pair(%x, %x): %x, want %x", high, low, m, n)
			}
			if a, b, ok := Halves(n); a != high || b != low || !ok {
				t.Fatalf("P1.1: Halves(%x): %x, %x, %t", n, a, b, ok)
			}
			n++
		}
	}
	if a, b, ok := Halves(0x1F600); a != 0xD83D || b != 0xDE00 || !ok || Encode(0x1F600) != "\xF0\x9F\x98\x80" {
		t.Errorf("P1.1: the document's example: %x, %x, %t", a, b, ok)
	}
}

func TestPairAndHalvesOfOthers(t *testing.T) { // P1.1
	for _, x := range [][2]int{{0xD7FF, 0xDC00}, {0xDC00, 0xDC00}, {0xDC00, 0xD800}, {0xD800, 0xDBFF}, {0xD800, 0xE000}, {0xD800, 0xD800}, {0, 0}, {-1, -1}, {0xD83D, 0}, {0, 0xDE00}, {1<<32 + 0xD800, 0xDC00}, {0xD800, 1<<32 + 0xDC00}, {math.MinInt, math.MaxInt}, {math.MaxInt, math.MinInt}} {
		if n := Pair(x[0], x[1]); n != -1 {
			t.Errorf("P1.1: Pair(%x): %x", x, n)
		}
	}
	for _, n := range append([]int{0, 0x61, 0xD7FF, 0xE000, 0xFFFF, 1<<32 + 0x10000}, strange...) {
		if a, b, ok := Halves(n); a != 0 || b != 0 || ok {
			t.Errorf("P1.1: Halves(%x): %x, %x, %t", n, a, b, ok)
		}
	}
}

func TestThereAndBack(t *testing.T) { // P1.2
	for _, s := range samples {
		l, ok := Points(s)
		if !ok {
			t.Fatalf("P1.2: Points(%q): false", s)
		}
		if again, ok := Text(l); !ok || again != s {
			t.Errorf("P1.2: %q: its points' text is %q, %t", s, again, ok)
		}
	}
	all := points()
	s, ok := Text(all)
	if !ok {
		t.Fatal("P1.2: all points have no text")
	}
	if l, ok := Points(s); !ok || !slices.Equal(l, all) {
		t.Error("P1.2: all points' text has other points")
	}
}

func TestOrder(t *testing.T) { // P1.3
	all := points()
	for i := 1; i < len(all); i++ {
		if a, b := Encode(all[i-1]), Encode(all[i]); a >= b {
			t.Fatalf("P1.3: %x isn't ahead of %x", a, b)
		}
	}
	for _, a := range samples {
		for _, b := range samples {
			l, _ := Points(a)
			m, _ := Points(b)
			if (a < b) != (slices.Compare(l, m) < 0) {
				t.Errorf("P1.3: %q and %q: their points stand otherwise", a, b)
			}
		}
	}
}

func TestAnswersAreNew(t *testing.T) { // P8: R6 and R8
	l, _ := Points("ab")
	m, _ := Points("ab")
	l[0] = 0x7A
	if !slices.Equal(m, []int{0x61, 0x62}) {
		t.Error("R6: two answers of Points share memory")
	}
	if again, _ := Points("ab"); !slices.Equal(again, []int{0x61, 0x62}) {
		t.Error("R8: Points answers what was written to an earlier answer")
	}
	roomy := []int{0x61, 0x62, 0x63}
	s, _ := Text(roomy[:2])
	if !slices.Equal(roomy, []int{0x61, 0x62, 0x63}) {
		t.Error("R6: Text has changed its argument")
	}
	roomy[0] = 0x7A
	if s != "ab" {
		t.Error("R6: Text keeps its argument")
	}
}

func TestEmpty(t *testing.T) { // R5
	for _, l := range [][]int{nil, {}} {
		if s, ok := Text(l); s != "" || !ok {
			t.Errorf("R5: Text of nothing: %q, %t", s, ok)
		}
	}
	if l, ok := Points(""); len(l) != 0 || !ok {
		t.Errorf("R5: Points of nothing: %x, %t", l, ok)
	}
}

// FuzzBytes asks whether any bytes are spoken of alike by all calls, and whether none panics (P7).
func FuzzBytes(f *testing.F) {
	for _, s := range samples {
		f.Add(s)
		f.Add(s + "\xEF\xBF" + s)
	}
	f.Fuzz(func(t *testing.T, s string) {
		at := 0
		var want []int
		for at < len(s) {
			n, many := Decode(s[at:])
			if n < 0 {
				break
			}
			want = append(want, n)
			at += many
		}
		place, ok := Valid(s)
		l, also := Points(s)
		if whole := at == len(s); ok != whole || also != whole || !ok && place != at {
			t.Fatalf("P1.1: %x: %d %t %t, Decode goes up to %d", s, place, ok, also, at)
		}
		if again, _ := Text(want); again != s[:at] {
			t.Fatalf("P1.2: %x: the text of %x is %x", s, want, again)
		}
		if ok && !slices.Equal(l, want) {
			t.Fatalf("P1.1: %x: %x, want %x", s, l, want)
		}
	})
}
