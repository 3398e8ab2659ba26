package number

import (
	"math"
	"math/big"
	"math/rand"
	"testing"

	"purser/api"
)

// large is the number of parts, the lowest first.
func large(parts []uint64) *big.Int {
	n := new(big.Int)
	for i := len(parts) - 1; i >= 0; i-- {
		n.Lsh(n, 64).Or(n, new(big.Int).SetUint64(parts[i]))
	}
	return n
}

// edgy draws a part, mostly one of those at which a guess goes wrong.
func edgy(r *rand.Rand) uint64 {
	edges := []uint64{0, 1, 2, 1<<63 - 1, 1 << 63, 1<<63 + 1, math.MaxUint64 - 1, math.MaxUint64}
	if n := r.Intn(len(edges) + 2); n < len(edges) {
		return edges[n]
	}
	return r.Uint64() >> r.Intn(64)
}

func checkDivide(t *testing.T, n double, d api.Word) {
	t.Helper()
	quotient, rest := divide(n, d)
	if d == (api.Word{}) {
		if quotient != (double{}) || rest != (api.Word{}) {
			t.Fatalf("%x / 0 = %x, rest %x", n, quotient, rest)
		}
		return
	}
	q, r := new(big.Int).QuoRem(large(n[:]), large(d[:]), new(big.Int))
	if large(quotient[:]).Cmp(q) != 0 || large(rest[:]).Cmp(r) != 0 {
		t.Fatalf("%x / %x = %x, rest %x, want %x, rest %x", n, d, quotient, rest, q, r)
	}
}

func TestDivideDrawn(t *testing.T) {
	r := rand.New(rand.NewSource(4))
	for range 200000 {
		var n double
		var d api.Word
		for i := range r.Intn(len(n) + 1) {
			n[i] = edgy(r)
		}
		for i := range r.Intn(len(d) + 1) {
			d[i] = edgy(r)
		}
		checkDivide(t, n, d)
	}
}

// TestDivideNearMultiples: at a multiple, one below and one above it, a guess is most easily wrong.
func TestDivideNearMultiples(t *testing.T) {
	r := rand.New(rand.NewSource(5))
	for range 50000 {
		var a, b api.Word
		for i := range a {
			a[i], b[i] = edgy(r), edgy(r)
		}
		n := product(a, b)
		checkDivide(t, n, b)
		if n[0] > 0 {
			n[0]--
			checkDivide(t, n, b)
			n[0]++
		}
		if n[0] < math.MaxUint64 {
			n[0]++
			checkDivide(t, n, b)
		}
	}
}

// TestGuessTooGreat: guesses that are right, too great by 1, and by 2.
func TestGuessTooGreat(t *testing.T) {
	const half, top = 1 << 63, math.MaxUint64
	for _, c := range []struct {
		rest, divisor []uint64
		tooGreat      uint64
	}{
		{[]uint64{0, 0, half >> 1}, []uint64{0, half}, 0},
		{[]uint64{0, 0, half >> 1}, []uint64{1, half}, 1},
		{[]uint64{0, 0, half - 1}, []uint64{top, half}, 2},
	} {
		q := new(big.Int).Quo(large(c.rest), large(c.divisor)).Uint64()
		if g := guess(c.rest[2], c.rest[1], c.divisor[1]); g-q != c.tooGreat {
			t.Errorf("%x / %x: the guess is too great by %d, want %d", c.rest, c.divisor, g-q, c.tooGreat)
		}
		left := append([]uint64{}, c.rest...)
		if got := takeMost(left, c.divisor); got != q {
			t.Errorf("%x / %x: %x times, want %x", c.rest, c.divisor, got, q)
		}
		want := new(big.Int).Rem(large(c.rest), large(c.divisor))
		if large(left).Cmp(want) != 0 {
			t.Errorf("%x / %x: %x is left, want %x", c.rest, c.divisor, left, want)
		}
	}
}
