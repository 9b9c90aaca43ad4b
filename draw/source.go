package draw

import (
	"slices"

	"cheval/api"
)

const (
	mostWeights = 64
	mostWeight  = 1000
)

// Source: numbers, each below a bound.
type Source interface {
	Next(bound int) int
	Used() int
}

// count: how many numbers a source told.
type count struct {
	used int
}

// script: a source whose numbers are told, and which of them are left.
type script struct {
	count
	left []int
}

// mixer: a source whose numbers are mixed from a state.
type mixer struct {
	count
	state uint64
}

// Script: a source of numbers that are told.
func Script(l []int) Source {
	return &script{left: slices.Clone(l)}
}

// Mix: a source of mixed numbers.
func Mix(seed int64) Source {
	return &mixer{state: uint64(seed)}
}

// Weigh: a place, by weights.
func Weigh(s Source, weights []int) (int, api.Errno) {
	if len(weights) == 0 {
		return 0, api.ErrEmpty
	}
	if len(weights) > mostWeights || slices.ContainsFunc(weights, isNoWeight) {
		return 0, api.ErrRange
	}
	sum := 0
	for _, weight := range weights {
		sum += weight
	}
	return place(s.Next(sum), weights), api.OK
}

// Used: how many it told.
func (c *count) Used() int {
	return c.used
}

// counts: may a number be asked for by a bound? Then it counts.
func (c *count) counts(bound int) bool {
	if bound < 1 || api.MaxBound < bound {
		return false
	}
	c.used++
	return true
}

// Next: the next one of those that are told.
func (s *script) Next(bound int) int {
	if !s.counts(bound) {
		return 0
	}
	if len(s.left) == 0 {
		return 0
	}
	number := s.left[0] % bound
	s.left = s.left[1:]
	// What a number below 0 leaves is below 0, too.
	if number < 0 {
		number += bound
	}
	return number
}

// Next: the next one that is mixed.
func (m *mixer) Next(bound int) int {
	if !m.counts(bound) {
		return 0
	}
	m.state += 0x9E3779B97F4A7C15
	z := m.state
	z = (z ^ z>>30) * 0xBF58476D1CE4E5B9
	z = (z ^ z>>27) * 0x94D049BB133111EB
	z ^= z >> 31
	return int(z % uint64(bound))
}

// place is that of the first weight at which those up to it are together greater than a number.
func place(number int, weights []int) int {
	last := len(weights) - 1
	// There is nothing behind the last one, even if somebody else's source tells a number that isn't below their sum.
	for at, weight := range weights[:last] {
		if number < weight {
			return at
		}
		number -= weight
	}
	return last
}

// isNoWeight: is a number none?
func isNoWeight(n int) bool {
	return n < 1 || mostWeight < n
}
