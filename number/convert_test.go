package number

import (
	"math"
	"testing"

	"purser/api"
)

func TestID(t *testing.T) {
	for w, want := range map[api.Word]int{
		{}:                          0,
		{7}:                         7,
		{1<<32 - 1}:                 1<<32 - 1,
		{1 << 32}:                   0,
		{1<<63 + 5, 9, 9, 9}:        5,
		{math.MaxUint64, 0, 0, 0}:   1<<32 - 1,
		{0, math.MaxUint64, 0, 999}: 0,
	} {
		if got := ID(w); got != want {
			t.Errorf("ID(%v) = %d, want %d", w, got, want)
		}
	}
}

func TestIndex(t *testing.T) {
	for _, c := range []struct {
		w    api.Word
		n    int
		want int
		is   bool
	}{
		{api.Word{}, 0, 0, false},
		{api.Word{}, 1, 0, true},
		{api.Word{4}, 5, 4, true},
		{api.Word{5}, 5, 0, false},
		{api.Word{6}, 5, 0, false},
		{api.Word{math.MaxUint64}, 5, 0, false},
		{api.Word{4, 1}, 5, 0, false},
		{api.Word{4, 0, 0, 1}, 5, 0, false},
	} {
		if got, is := Index(c.w, c.n); got != c.want || is != c.is {
			t.Errorf("Index(%v, %d) = %d, %v, want %d, %v", c.w, c.n, got, is, c.want, c.is)
		}
	}
}

func TestBytes(t *testing.T) {
	w := api.Word{0x191a1b1c1d1e1f20, 0x1112131415161718, 0x090a0b0c0d0e0f10, 0x0102030405060708}
	list := Bytes(w)
	for i, b := range list {
		if int(b) != i+1 {
			t.Errorf("Bytes: %d at %d, want %d", b, i, i+1)
		}
	}
	if got := FromBytes(list[:]); got != w {
		t.Errorf("FromBytes = %x, want %x", got, w)
	}
	if got, want := FromBytes(list[:9]), (api.Word{0x0203040506070809, 1}); got != want {
		t.Errorf("FromBytes of 9 = %x, want %x", got, want)
	}
	if got := FromBytes(nil); got != (api.Word{}) {
		t.Errorf("FromBytes of none = %x", got)
	}
}

func TestByteLength(t *testing.T) {
	for w, want := range map[api.Word]int{
		{}: 0, {1}: 1, {255}: 1, {256}: 2, {math.MaxUint64}: 8, {0, 1}: 9, {0, 0, 0, 1 << 55}: 31, {0, 0, 0, 1 << 56}: 32, {0, 0, 0, 1 << 63}: 32,
	} {
		if got := ByteLength(w); got != want {
			t.Errorf("ByteLength(%x) = %d, want %d", w, got, want)
		}
	}
}
