package number

import (
	"math/bits"

	"purser/api"
)

const (
	wordBytes = 32
	partBytes = 8
	partBits  = 64
)

// And is a and b, bit by bit.
func And(a, b api.Word) api.Word {
	for i := range a {
		a[i] &= b[i]
	}
	return a
}

// Or is a or b, bit by bit.
func Or(a, b api.Word) api.Word {
	for i := range a {
		a[i] |= b[i]
	}
	return a
}

// Xor is either a or b, bit by bit.
func Xor(a, b api.Word) api.Word {
	for i := range a {
		a[i] ^= b[i]
	}
	return a
}

// Not is a with all bits turned.
func Not(a api.Word) api.Word {
	for i := range a {
		a[i] = ^a[i]
	}
	return a
}

// Byte is the a-th of b's bytes, from the highest on; 0, if there is none.
func Byte(a, b api.Word) api.Word {
	if !Less(a, api.Word{wordBytes}) {
		return api.Word{}
	}
	place := wordBytes - 1 - a[0]
	part := b[place/partBytes]
	return api.Word{part >> (place % partBytes * 8) & 0xff}
}

// Extend is b's lowest a + 1 bytes as a signed number; b, if these are all.
func Extend(a, b api.Word) api.Word {
	if !Less(a, api.Word{wordBytes - 1}) {
		return b
	}
	sign := int(a[0])*8 + 7
	lowest := ones(sign + 1)
	if bit(b, sign) {
		return Or(b, Not(lowest))
	}
	return And(b, lowest)
}

// ones is the word whose lowest n bits are set, n below 256.
func ones(n int) api.Word {
	var next api.Word
	next[n/partBits] = 1 << (n % partBits)
	return Sub(next, api.Word{1})
}

// bit tells whether the n-th bit is set, from the lowest on.
func bit(a api.Word, n int) bool {
	return a[n/partBits]>>(n%partBits)&1 == 1
}

// partLength is how many parts there are up to the highest that is not 0.
func partLength(a api.Word) int {
	n := len(a)
	for n > 0 && a[n-1] == 0 {
		n--
	}
	return n
}

// bitLength is how many bits there are up to the highest that is set.
func bitLength(a api.Word) int {
	n := partLength(a)
	if n == 0 {
		return 0
	}
	return (n-1)*partBits + bits.Len64(a[n-1])
}
