package number

import (
	"math"
	"testing"

	"purser/api"
)

func TestSumCarries(t *testing.T) {
	const top = math.MaxUint64
	all := api.Word{top, top, top, top}
	for _, c := range []struct {
		a, b, sum api.Word
		carry     uint64
	}{
		{api.Word{}, api.Word{}, api.Word{}, 0},
		{all, api.Word{}, all, 0},
		{all, api.Word{1}, api.Word{}, 1},
		{all, all, api.Word{top - 1, top, top, top}, 1},
		{api.Word{top, top}, api.Word{1}, api.Word{0, 0, 1}, 0},
	} {
		if sum, carry := Sum(c.a, c.b); sum != c.sum || carry != c.carry {
			t.Errorf("%x + %x = %x, carry %d, want %x, carry %d", c.a, c.b, sum, carry, c.sum, c.carry)
		}
	}
}

// TestCompare: a higher part outweighs all below it.
func TestCompare(t *testing.T) {
	rising := []api.Word{{}, {1}, {math.MaxUint64}, {0, 1}, {5, 1}, {0, 0, 1}, {9, 9, 1}, {0, 0, 0, 1}, {0, 0, 0, math.MaxUint64}}
	for i, a := range rising {
		for j, b := range rising {
			if got := Compare(a, b); got < 0 != (i < j) || got > 0 != (i > j) {
				t.Errorf("Compare(%x, %x) = %d", a, b, got)
			}
		}
	}
}
