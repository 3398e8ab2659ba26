package purser_test

import (
	"math"
	"math/big"
	"math/rand"
	"testing"

	"purser/api"
	"purser/purser"
)

const top = math.MaxUint64

// greatest is 2^256 - 1, and least the least signed number.
var (
	greatest = api.Word{top, top, top, top}
	least    = api.Word{0, 0, 0, 1 << 63}
)

func of(n uint64) api.Word { return api.Word{n} }

// minus is -n.
func minus(n int64) api.Word { return word(big.NewInt(-n)) }

func large(w api.Word) *big.Int {
	n := new(big.Int)
	for i := len(w) - 1; i >= 0; i-- {
		n.Lsh(n, 64).Or(n, new(big.Int).SetUint64(w[i]))
	}
	return n
}

func word(n *big.Int) api.Word {
	n = new(big.Int).Mod(n, new(big.Int).Lsh(big.NewInt(1), 256))
	var w api.Word
	for i := range w {
		w[i] = new(big.Int).Rsh(n, uint(64*i)).Uint64()
	}
	return w
}

func signed(w api.Word) *big.Int {
	n := large(w)
	if n.Bit(255) == 1 {
		n.Sub(n, new(big.Int).Lsh(big.NewInt(1), 256))
	}
	return n
}

func truth(yes bool) api.Word {
	if yes {
		return of(1)
	}
	return of(0)
}

// draw draws a word of few or many parts, small, edgy or any.
func draw(r *rand.Rand) api.Word {
	var w api.Word
	for i := range r.Intn(len(w) + 1) {
		switch r.Intn(5) {
		case 0:
			w[i] = top
		case 1:
			w[i] = 1 << 63
		case 2:
			w[i] = uint64(r.Intn(40))
		case 3:
			w[i] = r.Uint64()
		}
	}
	if r.Intn(4) == 0 {
		return word(new(big.Int).Neg(large(w)))
	}
	return w
}

// accounts is n accounts from the ID 1 on.
func accounts(n int) []api.Account {
	var list []api.Account
	for i := range n {
		list = append(list, api.Account{ID: i + 1})
	}
	return list
}

// slots is n slots from the key 0 on, with the value v each.
func slots(n int, v api.Word) []api.Slot {
	var list []api.Slot
	for i := range n {
		list = append(list, api.Slot{Key: of(uint64(i)), Value: v})
	}
	return list
}

func bytesOf(n int) string { return string(make([]byte, n)) }

// world makes a world that may be made.
func world(t *testing.T, list ...api.Account) *purser.World {
	t.Helper()
	w, err := purser.New(list)
	if w == nil || err != nil {
		t.Fatalf("New: world %v, error %v", w != nil, err)
	}
	return w
}
