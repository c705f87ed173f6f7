// Package modn: arithmetic modulo a number, see shared/doc/01-modn.md.
package modn

import (
	"math/bits"

	"spandrel/api"
)

// Add answers a + b modulo m, and 0 of an m that is no modulus.
func Add(a, b, m uint64) uint64 {
	if !isModulus(m) {
		return 0
	}
	// Both are below 2^62 once reduced, so the sum can't wrap round.
	return (a%m + b%m) % m
}

// Sub answers a - b modulo m, and 0 of an m that is no modulus.
func Sub(a, b, m uint64) uint64 {
	if !isModulus(m) {
		return 0
	}
	// m is added ahead of b being taken away, so that nothing goes below 0.
	return (a%m + m - b%m) % m
}

// Mul answers a b modulo m, and 0 of an m that is no modulus.
func Mul(a, b, m uint64) uint64 {
	if !isModulus(m) {
		return 0
	}
	high, low := bits.Mul64(a%m, b%m)
	// Div64 panics unless high is below m: it is, as the product is below m m.
	_, rest := bits.Div64(high, low, m)
	return rest
}

// Pow answers a to the e modulo m (1 of e 0), and 0 of an m that is no modulus.
func Pow(a, e, m uint64) uint64 {
	if !isModulus(m) {
		return 0
	}
	power := uint64(1)
	for square := a % m; e > 0; e >>= 1 {
		if e&1 == 1 {
			power = Mul(power, square, m)
		}
		square = Mul(square, square, m)
	}
	return power
}

// Inv answers the number that makes 1 of a modulo m, and true; 0 and false, if
// there is none, or m is no modulus.
func Inv(a, m uint64) (uint64, bool) {
	if !isModulus(m) {
		return 0, false
	}
	// Euclid's way, keeping that rest is a times factor, and next a times
	// nextFactor, modulo m: where rest ends as 1, factor is the inverse.
	rest, next := m, a%m
	factor, nextFactor := uint64(0), uint64(1)
	for next > 0 {
		times := rest / next
		rest, next = next, rest%next
		factor, nextFactor = nextFactor, Sub(factor, Mul(times, nextFactor, m), m)
	}
	if rest != 1 {
		return 0, false
	}
	return factor, true
}

func isModulus(m uint64) bool {
	return m >= 2 && m <= api.MostMod
}
