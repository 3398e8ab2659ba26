package number

import "purser/api"

// ID is the word as an account's ID: its lowest 32 bits.
func ID(a api.Word) int {
	return int(uint32(a[0]))
}

// Index is the word as a place in a list of n; false, if it is behind its end.
func Index(a api.Word, n int) (int, bool) {
	if !Less(a, api.Word{uint64(n)}) {
		return 0, false
	}
	return int(a[0]), true
}

// FromBytes is the number of at most 32 bytes, the highest first.
func FromBytes(list []byte) api.Word {
	var w api.Word
	for i, b := range list {
		place := len(list) - 1 - i
		w[place/partBytes] |= uint64(b) << (place % partBytes * 8)
	}
	return w
}

// Bytes are the word's 32 bytes, the highest first.
func Bytes(a api.Word) [wordBytes]byte {
	var list [wordBytes]byte
	for i := range list {
		place := wordBytes - 1 - i
		list[i] = byte(a[place/partBytes] >> (place % partBytes * 8))
	}
	return list
}

// ByteLength is how many bytes there are up to the highest that is not 0.
func ByteLength(a api.Word) int {
	return (bitLength(a) + 7) / 8
}
