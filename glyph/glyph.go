// Package glyph is layer 1: texts as points, and points as bytes: see shared/doc/01-glyph.md.
package glyph

import (
	"strings"
	"unicode/utf8"
)

const (
	lastPoint   = 0x10FFFF
	firstPaired = 0x10000 // the first point that has halves
	firstHigh   = 0xD800
	firstLow    = 0xDC00
	lastLow     = 0xDFFF
	halfSpan    = 0x400 // how many halves there are of each sort
)

// Is: is a number a point?
func Is(n int) bool {
	return 0 <= n && n <= lastPoint && !(firstHigh <= n && n <= lastLow)
}

// Encode: a point's bytes.
func Encode(n int) string {
	// A greater number would be cut to a rune's 32 bits, and might seem a point then.
	if !Is(n) {
		return ""
	}
	return string(rune(n))
}

// Decode: the first point of bytes, and how many bytes it has.
func Decode(s string) (int, int) {
	first, size := -1, 0
	each(s, func(point rune) bool {
		first, size = int(point), utf8.RuneLen(point)
		return false
	})
	return first, size
}

// Valid: are bytes a text, or where are they none?
func Valid(s string) (int, bool) {
	return each(s, func(rune) bool { return true })
}

// Points: a text's.
func Points(s string) ([]int, bool) {
	var l []int
	_, ok := each(s, func(point rune) bool {
		l = append(l, int(point))
		return true
	})
	if !ok {
		return nil, false
	}
	return l, true
}

// Text: that of points.
func Text(l []int) (string, bool) {
	var b strings.Builder
	for _, n := range l {
		if !Is(n) {
			return "", false
		}
		b.WriteRune(rune(n))
	}
	return b.String(), true
}

// Pair: the point of two halves.
func Pair(high, low int) int {
	if !isHalf(high, firstHigh) || !isHalf(low, firstLow) {
		return -1
	}
	return firstPaired + (high-firstHigh)*halfSpan + (low - firstLow)
}

// Halves: those of a point.
func Halves(n int) (int, int, bool) {
	if n < firstPaired || !Is(n) {
		return 0, 0, false
	}
	above := n - firstPaired
	return firstHigh + above/halfSpan, firstLow + above%halfSpan, true
}

// isHalf: is a number a half of the sort that begins at first?
func isHalf(n, first int) bool {
	return first <= n && n < first+halfSpan
}

// each hands the points of bytes on, from the left, till it is told to stop, or
// comes to a byte at which no point begins: then it answers its place, and false.
func each(s string, do func(point rune) bool) (int, bool) {
	for at, point := range s {
		// A range gives U+FFFD for bad bytes too, so its own bytes must be there.
		if point == utf8.RuneError && !strings.HasPrefix(s[at:], string(utf8.RuneError)) {
			return at, false
		}
		if !do(point) {
			break
		}
	}
	return 0, true
}
