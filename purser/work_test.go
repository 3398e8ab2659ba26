package purser_test

import (
	"math/big"
	"math/rand"
	"testing"

	"purser/api"
	"purser/purser"
)

// The ops, by the document's numbers.
const (
	add, sub, mul                  = 1, 2, 3
	div, mod, sdiv, smod           = 4, 5, 6, 7
	addMod, mulMod                 = 8, 9
	exp, extend                    = 10, 11
	less, greater, sless, sgreater = 12, 13, 14, 15
	equal, zero, and, or, xor, not = 16, 17, 18, 19, 20, 21
	byteOf                         = 22
)

// TestWorkEdges: P4, ordinary inputs and the edges that the document names.
func TestWorkEdges(t *testing.T) {
	count := word(new(big.Int).SetBytes(rising()))
	for _, c := range []struct {
		op            byte
		a, b, c, want api.Word
	}{
		{add, of(5), of(7), of(0), of(12)},
		{add, greatest, of(1), of(0), of(0)},
		{add, api.Word{top, top}, of(1), of(0), api.Word{0, 0, 1}},
		{sub, of(5), of(7), of(0), minus(2)},
		{sub, api.Word{0, 0, 1}, of(1), of(0), api.Word{top, top}},
		{mul, of(5), of(7), of(0), of(35)},
		{mul, least, of(2), of(0), of(0)},
		{mul, greatest, greatest, of(0), of(1)},
		{div, of(7), of(2), of(0), of(3)},
		{div, of(7), of(0), of(0), of(0)},
		{div, of(0), of(0), of(0), of(0)},
		{div, greatest, of(0), of(0), of(0)},
		{div, greatest, greatest, of(0), of(1)},
		{div, greatest, of(1), of(0), greatest},
		{div, of(7), greatest, of(0), of(0)},
		{mod, of(7), of(2), of(0), of(1)},
		{mod, of(7), of(0), of(0), of(0)},
		{mod, greatest, greatest, of(0), of(0)},
		{mod, of(7), greatest, of(0), of(7)},
		{sdiv, minus(7), of(2), of(0), minus(3)},
		{sdiv, of(7), minus(2), of(0), minus(3)},
		{sdiv, minus(7), minus(2), of(0), of(3)},
		{sdiv, of(7), of(2), of(0), of(3)},
		{sdiv, minus(7), of(0), of(0), of(0)},
		{sdiv, least, minus(1), of(0), least},
		{sdiv, least, of(1), of(0), least},
		{sdiv, least, least, of(0), of(1)},
		{smod, minus(7), of(2), of(0), minus(1)},
		{smod, of(7), minus(2), of(0), of(1)},
		{smod, minus(7), minus(2), of(0), minus(1)},
		{smod, minus(7), of(0), of(0), of(0)},
		{smod, least, minus(1), of(0), of(0)},
		{smod, least, of(3), of(0), minus(2)},
		{addMod, of(5), of(7), of(10), of(2)},
		{addMod, greatest, of(2), of(10), of(7)},
		{addMod, greatest, greatest, greatest, of(0)},
		{addMod, greatest, of(1), greatest, of(1)},
		{addMod, of(5), of(7), of(0), of(0)},
		{addMod, greatest, greatest, of(0), of(0)},
		{mulMod, of(5), of(7), of(10), of(5)},
		{mulMod, least, of(2), of(3), of(1)},
		{mulMod, greatest, greatest, greatest, of(0)},
		{mulMod, greatest, greatest, of(0), of(0)},
		{exp, of(3), of(5), of(0), of(243)},
		{exp, of(2), of(255), of(0), least},
		{exp, of(2), of(256), of(0), of(0)},
		{exp, of(0), of(0), of(0), of(1)},
		{exp, greatest, of(0), of(0), of(1)},
		{exp, of(0), of(1), of(0), of(0)},
		{exp, of(0), greatest, of(0), of(0)},
		{exp, of(1), greatest, of(0), of(1)},
		{exp, greatest, greatest, of(0), greatest},
		{exp, greatest, minus(2), of(0), of(1)},
		{less, of(1), of(2), of(0), of(1)},
		{less, of(2), of(2), of(0), of(0)},
		{less, greatest, of(0), of(0), of(0)},
		{less, of(9), api.Word{0, 1}, of(0), of(1)},
		{greater, of(2), of(1), of(0), of(1)},
		{greater, of(2), of(2), of(0), of(0)},
		{greater, greatest, of(0), of(0), of(1)},
		{sless, minus(1), of(0), of(0), of(1)},
		{sless, least, api.Word{top, top, top, 1<<63 - 1}, of(0), of(1)},
		{sless, minus(2), minus(1), of(0), of(1)},
		{sless, minus(1), minus(1), of(0), of(0)},
		{sgreater, of(0), minus(1), of(0), of(1)},
		{sgreater, least, of(0), of(0), of(0)},
		{sgreater, minus(1), minus(2), of(0), of(1)},
		{sgreater, of(3), of(3), of(0), of(0)},
		{equal, least, least, of(0), of(1)},
		{equal, least, of(0), of(0), of(0)},
		{zero, of(0), of(5), of(5), of(1)},
		{zero, least, of(0), of(0), of(0)},
		{and, of(12), of(10), of(0), of(8)},
		{or, of(12), of(10), of(0), of(14)},
		{xor, of(12), of(10), of(0), of(6)},
		{not, of(0), of(5), of(5), greatest},
		{not, greatest, of(0), of(0), of(0)},
		{extend, of(0), of(255), of(0), minus(1)},
		{extend, of(0), of(0x17f), of(0), of(0x7f)},
		{extend, of(1), of(0x18000), of(0), minus(0x8000)},
		{extend, of(30), api.Word{0, 0, 0, 0x0080 << 48}, of(0), api.Word{0, 0, 0, 0xff80 << 48}},
		{extend, of(30), api.Word{7, 0, 0, 0xff7f << 48}, of(0), api.Word{7, 0, 0, 0x007f << 48}},
		{extend, of(31), least, of(0), least},
		{extend, of(31), count, of(0), count},
		{extend, of(32), of(255), of(0), of(255)},
		{extend, api.Word{0, 1}, of(255), of(0), of(255)},
		{extend, api.Word{0, 0, 0, 1}, of(255), of(0), of(255)},
		{extend, greatest, of(255), of(0), of(255)},
		{byteOf, of(0), count, of(0), of(1)},
		{byteOf, of(31), count, of(0), of(32)},
		{byteOf, of(32), greatest, of(0), of(0)},
		{byteOf, api.Word{0, 1}, greatest, of(0), of(0)},
		{byteOf, api.Word{0, 0, 0, 1}, greatest, of(0), of(0)},
		{byteOf, greatest, greatest, of(0), of(0)},
	} {
		if got := purser.Work(c.op, c.a, c.b, c.c); got != c.want {
			t.Errorf("P4: Work(%d, %x, %x, %x) = %x, want %x", c.op, c.a, c.b, c.c, got, c.want)
		}
	}
}

// rising is the bytes 1 to 32.
func rising() []byte {
	list := make([]byte, 32)
	for i := range list {
		list[i] = byte(i + 1)
	}
	return list
}

// TestWorkNoOp: P4, 0 of what is no op.
func TestWorkNoOp(t *testing.T) {
	for op := range 256 {
		if op >= add && op <= byteOf {
			continue
		}
		for _, a := range []api.Word{of(0), of(1), of(7), greatest} {
			if got := purser.Work(byte(op), a, greatest, of(3)); got != of(0) {
				t.Errorf("P4: Work(%d) = %x, want 0", op, got)
			}
		}
	}
}

// TestWorkTakes: P4, Not and Zero take a alone, AddMod and MulMod all three, the others a and b.
func TestWorkTakes(t *testing.T) {
	r := rand.New(rand.NewSource(2))
	for range 300 {
		a, b, c := draw(r), draw(r), draw(r)
		for op := byte(add); op <= byteOf; op++ {
			if op == addMod || op == mulMod {
				continue
			}
			got := purser.Work(op, a, b, c)
			other := b
			if op == zero || op == not {
				other = draw(r)
			}
			if again := purser.Work(op, a, other, draw(r)); again != got {
				t.Fatalf("P4: Work(%d, %x, ..) hangs on what it does not take", op, a)
			}
		}
	}
}

// TestWorkDrawn: P4, all ops, held against big numbers.
func TestWorkDrawn(t *testing.T) {
	r := rand.New(rand.NewSource(3))
	for range 5000 {
		a, b, c := draw(r), draw(r), draw(r)
		for op := byte(add); op <= byteOf; op++ {
			if got, want := purser.Work(op, a, b, c), expected(op, a, b, c); got != want {
				t.Fatalf("P4: Work(%d, %x, %x, %x) = %x, want %x", op, a, b, c, got, want)
			}
		}
	}
}

// TestWorkAllPlaces: P4, Extend and Byte at every place about their last.
func TestWorkAllPlaces(t *testing.T) {
	r := rand.New(rand.NewSource(6))
	for place := range uint64(40) {
		for range 50 {
			b := api.Word{r.Uint64(), r.Uint64(), r.Uint64(), r.Uint64()}
			for _, op := range []byte{extend, byteOf} {
				if got, want := purser.Work(op, of(place), b, of(0)), expected(op, of(place), b, of(0)); got != want {
					t.Fatalf("P4: Work(%d, %d, %x) = %x, want %x", op, place, b, got, want)
				}
			}
		}
	}
}

// expected is the answer worked by big numbers.
func expected(op byte, a, b, c api.Word) api.Word {
	n, x, y, z := new(big.Int), large(a), large(b), large(c)
	switch op {
	case add:
		return word(n.Add(x, y))
	case sub:
		return word(n.Sub(x, y))
	case mul:
		return word(n.Mul(x, y))
	case div:
		return rested(n.Quo, x, y)
	case mod:
		return rested(n.Rem, x, y)
	case sdiv:
		return rested(n.Quo, signed(a), signed(b))
	case smod:
		return rested(n.Rem, signed(a), signed(b))
	case addMod:
		return rested(n.Rem, new(big.Int).Add(x, y), z)
	case mulMod:
		return rested(n.Rem, new(big.Int).Mul(x, y), z)
	case exp:
		return word(n.Exp(x, y, new(big.Int).Lsh(big.NewInt(1), 256)))
	case extend:
		return extended(x, y)
	case and:
		return word(n.And(x, y))
	case or:
		return word(n.Or(x, y))
	case xor:
		return word(n.Xor(x, y))
	case not:
		return word(n.Not(x))
	case byteOf:
		if x.Cmp(big.NewInt(31)) > 0 {
			return of(0)
		}
		return of(uint64(y.FillBytes(make([]byte, 32))[x.Uint64()]))
	}
	return truth(holds(op, a, b))
}

// rested is a division of big numbers; 0, if y is 0.
func rested(divide func(x, y *big.Int) *big.Int, x, y *big.Int) api.Word {
	if y.Sign() == 0 {
		return of(0)
	}
	return word(divide(x, y))
}

// extended is what Extend makes of big numbers.
func extended(x, y *big.Int) api.Word {
	if x.Cmp(big.NewInt(31)) >= 0 {
		return word(y)
	}
	size := uint(x.Uint64()+1) * 8
	all := new(big.Int).Lsh(big.NewInt(1), size)
	low := new(big.Int).Mod(y, all)
	if low.Bit(int(size-1)) == 1 {
		low.Sub(low, all)
	}
	return word(low)
}

// holds tells whether a comparison holds.
func holds(op byte, a, b api.Word) bool {
	switch op {
	case less:
		return large(a).Cmp(large(b)) < 0
	case greater:
		return large(a).Cmp(large(b)) > 0
	case sless:
		return signed(a).Cmp(signed(b)) < 0
	case sgreater:
		return signed(a).Cmp(signed(b)) > 0
	case equal:
		return large(a).Cmp(large(b)) == 0
	}
	return large(a).Sign() == 0
}
