package machine

import (
	"purser/api"
	"purser/number"
)

const (
	wordBytes = 32
	farthest  = 1 << 32
)

// memory is bytes, always in whole words.
type memory []byte

// reach is where a stretch of n bytes from a on ends; a stretch of none reaches nowhere.
func reach(a, n api.Word) (int, error) {
	if n == (api.Word{}) {
		return 0, nil
	}
	end, carry := number.Sum(a, n)
	if carry != 0 || number.Less(api.Word{farthest}, end) {
		return 0, ErrNoGas
	}
	return int(end[0]), nil
}

// cost is what it costs to make the memory at least so long.
func (m memory) cost(size int) int {
	if size <= len(m) {
		return 0
	}
	return price(wordsOf(size)) - price(wordsOf(len(m)))
}

// price is what a memory of so many words costs in all.
func price(words int) int { return 3*words + words*words/512 }

func wordsOf(size int) int { return (size + wordBytes - 1) / wordBytes }

// grow makes the memory at least so long.
func (m *memory) grow(size int) {
	if more := wordsOf(size)*wordBytes - len(*m); more > 0 {
		*m = append(*m, make([]byte, more)...)
	}
}

// stretch is n bytes from a on, which the memory reaches over unless they are none.
func (m memory) stretch(a, n api.Word) []byte {
	if n == (api.Word{}) {
		return nil
	}
	return m[a[0]:][:n[0]]
}
