package purser_test

import (
	"reflect"
	"slices"
	"strings"
	"testing"

	"purser/api"
)

// whole is what a memory of so many words costs in all.
func whole(words int) int { return 3*words + words*words/512 }

// TestMemory: P6, Load, Store, Store8 and Room.
func TestMemory(t *testing.T) {
	w := large256("abcdefghijklmnopqrstuvwxyz012345")
	at := func(n uint64) string { return pushWord(w) + push(n) + text(store) }
	lays(t, "Load of what is not", push(0)+text(load), 6+3, of(0))
	lays(t, "Store, Load", at(0)+push(0)+text(load), 9+6+3, w)
	lays(t, "Load behind it", at(0)+push(4)+text(load), 9+6+6, large256("efghijklmnopqrstuvwxyz012345\x00\x00\x00\x00"))
	lays(t, "Load ahead of it", at(4)+push(0)+text(load), 9+6+6, large256("\x00\x00\x00\x00abcdefghijklmnopqrstuvwxyz01"))
	lays(t, "Store over it", at(0)+pushWord(of(0))+push(1)+text(store)+push(0)+text(load), 9+9+6+6, large256("a"+bytesOf(31)))
	lays(t, "Store8", pushWord(w)+push(31)+text(store8)+push(0)+text(load), 9+6+3, of('5'))
	lays(t, "Store8 in the midst", at(0)+push('X', 1)+text(store8)+push(0)+text(load), 9+9+6+3, large256("aXcdefghijklmnopqrstuvwxyz012345"))
	for _, c := range []struct {
		name, code string
		words      int
	}{
		{"Load at 0", push(0) + text(load, pop), 1},
		{"Load at 1", push(1) + text(load, pop), 2},
		{"Load at 32", push(32) + text(load, pop), 2},
		{"Load at 33", push(33) + text(load, pop), 3},
	} {
		lays(t, "Room behind "+c.name, c.code+text(room), 3+3+2+whole(c.words)+2, of(uint64(32*c.words)))
	}
	for a, words := range map[uint64]int{0: 1, 31: 1, 32: 2, 63: 2, 64: 3} {
		lays(t, "Room behind Store8", push(9, a)+text(store8, room), 9+whole(words)+2, of(uint64(32*words)))
	}
	for a, words := range map[uint64]int{0: 1, 1: 2, 32: 2, 33: 3} {
		lays(t, "Room behind Store", push(9, a)+text(store, room), 9+whole(words)+2, of(uint64(32*words)))
	}
	lays(t, "Room does not shrink", push(64)+text(load, pop)+push(0)+text(load, pop, room), 16+whole(3)+2, of(96))
}

// TestMemoryGas: P6, what the memory costs, at once and bit by bit, as long as there is gas for it.
func TestMemoryGas(t *testing.T) {
	for _, words := range []int{1, 2, 21, 22, 23, 31, 32, 33, 45, 46, 511, 512, 513, 724, 5000, 20000} {
		costs(t, "a memory at once", push(uint64(32*words-1))+text(dup1, store8), 9+whole(words))
	}
	for _, c := range [][]int{{1, 22, 23}, {23, 22, 1}, {22, 23, 24, 46}, {500, 512, 724, 725}, {724, 3, 724}} {
		code, gas := "", whole(slices.Max(c))
		for _, words := range c {
			code += push(uint64(32*words-32)) + text(load, pop)
			gas += 3 + 3 + 2
		}
		costs(t, "a memory bit by bit", code, gas)
	}
	most := 0
	for 6+3+whole(most+1) <= api.MaxGas-atOnce {
		most++
	}
	r := does(t, stage(t, push(9, uint64(32*most-1))+text(store8)), ask(api.MaxGas-atOnce))
	if !r.Good || r.Gas != atOnce+9+whole(most) {
		t.Errorf("P6: the longest memory: %+v", r)
	}
	fails(t, "a memory too long", push(9, uint64(32*most))+text(store8))
}

// TestFarMemory: P6, at 2^32 and above there is never gas enough, and no sum wraps round to where there is.
func TestFarMemory(t *testing.T) {
	far := []api.Word{of(1<<32 - 33), of(1<<32 - 32), of(1<<32 - 31), of(1<<32 - 1), of(1 << 32), of(1<<32 + 1), of(1 << 63), of(top - 31), of(top), {0, 1}, {0, 0, 1}, {0, 0, 0, 1}, least, minus(33), minus(32), minus(31), minus(1)}
	for _, a := range far {
		fails(t, "Load", pushWord(a)+text(load))
		fails(t, "Store", push(1)+pushWord(a)+text(store))
		fails(t, "Store8", push(1)+pushWord(a)+text(store8))
		for _, n := range []api.Word{of(1), of(2), of(32), of(1<<32 - 1), a, greatest} {
			fails(t, "Return", pushWord(n)+pushWord(a)+text(give))
			fails(t, "Log", push(7)+pushWord(n)+pushWord(a)+text(tell))
		}
		for _, from := range []uint64{0, 1, 32, 33} {
			fails(t, "a long Return", pushWord(a)+push(from)+text(give))
			fails(t, "a long Log", push(7)+pushWord(a)+push(from)+text(tell))
		}
	}
}

// TestNoBytesAnywhere: P6, a stretch of no bytes touches nothing, wherever it is.
func TestNoBytesAnywhere(t *testing.T) {
	for _, a := range []api.Word{of(0), of(1), of(33), of(1<<32 - 1), of(1 << 32), of(1<<32 + 1), of(top), {0, 1}, least, greatest} {
		if r := costs(t, "Return", push(0)+pushWord(a)+text(give), 6); r.Out != "" {
			t.Errorf("P6: Return of none gives %q", r.Out)
		}
		r := costs(t, "Log", push(7, 0)+pushWord(a)+text(tell), 9+375)
		if !reflect.DeepEqual(r.Logs, []api.Log{{Account: target, Topic: of(7)}}) {
			t.Errorf("P6: Log of none tells %v", r.Logs)
		}
		lays(t, "Room", push(7, 0)+pushWord(a)+text(tell, room), 9+375+2, of(0))
	}
}

// TestLogs: P6, what is told comes in order, with the account, the topic and the bytes.
func TestLogs(t *testing.T) {
	w := large256("abcdefghijklmnopqrstuvwxyz012345")
	start := pushWord(w) + push(0) + text(store)
	for n := range uint64(40) {
		words := max(1, int(n+30+31)/32)
		if n == 0 {
			words = 1
		}
		r := costs(t, "Log", start+pushWord(least)+push(n, 30)+text(tell), 9+9+375+8*int(n)+whole(words))
		want := []api.Log{{Account: target, Topic: least, Data: ("45" + bytesOf(40))[:n]}}
		if !reflect.DeepEqual(r.Logs, want) {
			t.Errorf("P6: Log of %d bytes tells %v, want %v", n, r.Logs, want)
		}
	}
	r := costs(t, "Logs", start+push(3, 2, 1)+text(tell)+push('X', 1)+text(store8)+push(1, 2, 1)+text(tell)+push(2, 0, 0)+text(tell), 9+3+9+375+16+9+9+375+16+9+375)
	want := []api.Log{{Account: target, Topic: of(3), Data: "bc"}, {Account: target, Topic: of(1), Data: "Xc"}, {Account: target, Topic: of(2)}}
	if !reflect.DeepEqual(r.Logs, want) {
		t.Errorf("P6: Logs tell %v, want %v", r.Logs, want)
	}
	fails(t, "told, and badly", start+push(3, 2, 1)+text(tell, 255))
	if r := costs(t, "nothing told", push(1), 3); len(r.Logs) != 0 {
		t.Errorf("P6: nothing told: %v", r.Logs)
	}
}

// TestPut: P6, what it costs to keep a word, and what is kept.
func TestPut(t *testing.T) {
	had := api.Slot{Key: of(4), Value: of(8)}
	for _, c := range []struct {
		name       string
		key, value api.Word
		gas        int
	}{
		{"something for nothing", of(5), of(9), 20000},
		{"nothing for nothing", of(5), of(0), 5000},
		{"another", of(4), of(9), 5000},
		{"the same", of(4), of(8), 5000},
		{"a word of the highest bit alone", of(5), least, 20000},
		{"under a key that differs above", api.Word{4, 0, 0, 1}, of(9), 20000},
		{"under the greatest key", greatest, greatest, 20000},
	} {
		code := pushWord(c.value) + pushWord(c.key) + text(put)
		costs(t, c.name, code, 6+c.gas, had)
		w := stage(t, code, had)
		does(t, w, ask(6+c.gas))
		if got := kept(w, target, c.key); got != c.value {
			t.Errorf("P6: Put, %s: keeps %v, want %v", c.name, got, c.value)
		}
		if c.key != of(4) && kept(w, target, of(4)) != of(8) {
			t.Errorf("P6: Put, %s: touches another slot", c.name)
		}
	}
}

// TestKeep: P6, what is kept is laid on: by an order ahead of it, by itself, none.
func TestKeep(t *testing.T) {
	lays(t, "Keep of nothing", push(7)+text(keep), 53, of(0))
	lays(t, "Keep of what was put", push(9, 7)+text(put)+push(7)+text(keep), 6+20000+53, of(9))
	lays(t, "Keep of another", push(9, 7)+text(put)+pushWord(api.Word{7, 1})+text(keep), 6+20000+53, of(0))
	w := stage(t, push(0)+text(keep)+push(2)+text(add)+push(0)+text(put), api.Slot{Value: of(40)})
	for n := range 3 {
		o := ask(50000)
		o.Nonce = n
		does(t, w, o)
		if got := kept(w, target, of(0)); got != of(uint64(42+2*n)) {
			t.Errorf("P6: keeps %v behind order %d", got, n)
		}
	}
}

// TestManySlots: P6, the bound of slots is that of a world that is made.
func TestManySlots(t *testing.T) {
	code := ""
	for i := range 40 {
		code += push(1, uint64(200+i)) + text(put)
	}
	w := stage(t, code, slots(64, of(1))...)
	if r := does(t, w, ask(900000)); !r.Good || len(find(w, target).Slots) != 104 {
		t.Errorf("P6: %+v, %d slots", r, len(find(w, target).Slots))
	}
}

// TestLongLog: P6, as much is told as there is gas for.
func TestLongLog(t *testing.T) {
	r := costs(t, "a long Log", push(7, 50000, 0)+text(tell), 9+375+8*50000+whole(1563))
	if len(r.Logs) != 1 || r.Logs[0].Data != strings.Repeat("\x00", 50000) {
		t.Error("P6: a long Log does not tell 50000 bytes")
	}
}
