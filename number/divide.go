package number

import (
	"math"
	"math/bits"

	"purser/api"
)

// Div is a / b without the rest; 0, if b is 0.
func Div(a, b api.Word) api.Word {
	quotient, _ := divide(widen(a, 0), b)
	return quotient.low()
}

// Mod is the rest of a / b; 0, if b is 0.
func Mod(a, b api.Word) api.Word {
	_, rest := divide(widen(a, 0), b)
	return rest
}

// AddMod is the rest of a + b, not wrapped, by c; 0, if c is 0.
func AddMod(a, b, c api.Word) api.Word {
	_, rest := divide(widen(Sum(a, b)), c)
	return rest
}

// MulMod is the rest of a b, not wrapped, by c; 0, if c is 0.
func MulMod(a, b, c api.Word) api.Word {
	_, rest := divide(product(a, b), c)
	return rest
}

// widen is the number of a word and what was carried out of it.
func widen(a api.Word, carry uint64) double {
	return double{a[0], a[1], a[2], a[3], carry}
}

// divide is n / d and the rest; both are 0, if d is 0. It goes as one divides by hand, part by part from the highest on.
func divide(n double, d api.Word) (double, api.Word) {
	parts := partLength(d)
	if parts == 0 {
		return double{}, api.Word{}
	}
	// The guesses of takeMost are close only if the divisor's highest bit is set.
	shift := bits.LeadingZeros64(d[parts-1])
	var divisor api.Word
	shiftUp(divisor[:], d[:], shift)
	var rest [len(n) + 1]uint64
	shiftUp(rest[:], n[:], shift)
	var quotient double
	for i := len(n) - parts; i >= 0; i-- {
		quotient[i] = takeMost(rest[i:i+parts+1], divisor[:parts])
	}
	return quotient, shiftDown(api.Word(rest[:]), shift)
}

// takeMost takes the divisor off the rest as often as it goes, and tells how often. The rest has one part more than the divisor, and without its lowest part it is below the divisor.
func takeMost(rest, divisor []uint64) uint64 {
	top := len(divisor)
	times := guess(rest[top], rest[top-1], divisor[top-1])
	// A guess is never too small, and too great by 2 at most.
	for missing := takeOff(rest, divisor, times); missing != 0; times-- {
		missing -= putBack(rest, divisor)
	}
	return times
}

// guess is the number of the parts high and low by that of the part divisor, or the greatest part, if it is no part.
func guess(high, low, divisor uint64) uint64 {
	if high >= divisor {
		return math.MaxUint64
	}
	times, _ := bits.Div64(high, low, divisor)
	return times
}

// takeOff takes the divisor off the rest so many times, and tells what is borrowed.
func takeOff(rest, divisor []uint64, times uint64) uint64 {
	var carry, borrow uint64
	for i, part := range divisor {
		var low uint64
		carry, low = mulAdd(part, times, carry, 0)
		rest[i], borrow = bits.Sub64(rest[i], low, borrow)
	}
	top := len(divisor)
	rest[top], borrow = bits.Sub64(rest[top], carry, borrow)
	return borrow
}

// putBack adds the divisor to the rest, and tells what is carried.
func putBack(rest, divisor []uint64) uint64 {
	var carry uint64
	for i, part := range divisor {
		rest[i], carry = bits.Add64(rest[i], part, carry)
	}
	top := len(divisor)
	rest[top], carry = bits.Add64(rest[top], 0, carry)
	return carry
}

// shiftUp writes from, shifted up by 0 to 63 bits, into the parts of to, which may be one more.
func shiftUp(to, from []uint64, shift int) {
	var below uint64
	for i, part := range from {
		to[i] = part<<shift | below
		below = part >> (64 - shift)
	}
	if len(to) > len(from) {
		to[len(from)] = below
	}
}

// shiftDown is a shifted down by 0 to 63 bits.
func shiftDown(a api.Word, shift int) api.Word {
	var above uint64
	for i := len(a) - 1; i >= 0; i-- {
		a[i], above = a[i]>>shift|above, a[i]<<(64-shift)
	}
	return a
}
