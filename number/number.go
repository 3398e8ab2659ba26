// Package number works words as numbers of 256 bits.
package number

import (
	"cmp"
	"math/bits"

	"purser/api"
)

// double is a number of 512 bits, the lowest part first: no product of two words is too great for it.
type double [8]uint64

// Sum is a + b, wrapped round, and what is carried out of it.
func Sum(a, b api.Word) (api.Word, uint64) {
	var sum api.Word
	var carry uint64
	for i := range sum {
		sum[i], carry = bits.Add64(a[i], b[i], carry)
	}
	return sum, carry
}

// Add is a + b.
func Add(a, b api.Word) api.Word {
	sum, _ := Sum(a, b)
	return sum
}

// Sub is a - b.
func Sub(a, b api.Word) api.Word {
	var left api.Word
	var borrow uint64
	for i := range left {
		left[i], borrow = bits.Sub64(a[i], b[i], borrow)
	}
	return left
}

// Mul is a b.
func Mul(a, b api.Word) api.Word {
	return product(a, b).low()
}

// Exp is a to the b.
func Exp(a, b api.Word) api.Word {
	power := api.Word{1}
	for i := range bitLength(b) {
		if bit(b, i) {
			power = Mul(power, a)
		}
		a = Mul(a, a)
	}
	return power
}

// Compare is below 0, 0 or above 0, as a is below, equal to or above b.
func Compare(a, b api.Word) int {
	for i := len(a) - 1; i >= 0; i-- {
		if a[i] != b[i] {
			return cmp.Compare(a[i], b[i])
		}
	}
	return 0
}

// Less tells whether a is below b.
func Less(a, b api.Word) bool {
	return Compare(a, b) < 0
}

// product is a b, not wrapped.
func product(a, b api.Word) double {
	var p double
	for i, x := range a {
		var carry uint64
		for j, y := range b {
			carry, p[i+j] = mulAdd(x, y, p[i+j], carry)
		}
		p[i+len(b)] = carry
	}
	return p
}

// mulAdd is x y + s + t in two parts, the higher first. It never outgrows them.
func mulAdd(x, y, s, t uint64) (uint64, uint64) {
	high, low := bits.Mul64(x, y)
	low, carry := bits.Add64(low, s, 0)
	high += carry
	low, carry = bits.Add64(low, t, 0)
	return high + carry, low
}

// low is the lower half.
func (d double) low() api.Word {
	return api.Word{d[0], d[1], d[2], d[3]}
}
