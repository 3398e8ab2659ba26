package purser_test

import (
	"reflect"
	"slices"
	"testing"

	"purser/api"
	"purser/purser"
)

// The instructions by the document's bytes.
const (
	stop                                = 0
	self, balance, caller, value, size  = 24, 25, 26, 27, 28
	arg, gasLeft, place, room           = 29, 30, 31, 32
	pop, load, store, store8, keep, put = 40, 41, 42, 43, 44, 45
	jump, jumpIf, mark, tell            = 46, 47, 48, 50
	create, call, lend, give, destroy   = 60, 61, 62, 63, 64
	push1, push32, dup1, swap1          = 96, 127, 128, 144
)

// text joins bytes, as numbers, and pieces of code.
func text(parts ...any) string {
	var list []byte
	for _, p := range parts {
		switch x := p.(type) {
		case int:
			list = append(list, byte(x))
		case string:
			list = append(list, x...)
		}
	}
	return string(list)
}

// push lays small numbers on, the last one topmost, for 3 gas each.
func push(numbers ...uint64) string {
	code := ""
	for _, n := range numbers {
		list := []byte{byte(n)}
		for n >>= 8; n > 0; n >>= 8 {
			list = append(list, byte(n))
		}
		slices.Reverse(list)
		code += text(push1+len(list)-1, string(list))
	}
	return code
}

// pushWord lays a word on by Push 32, for 3 gas.
func pushWord(w api.Word) string { return text(push32, inBytes(w)) }

// inBytes is the word's 32 bytes.
func inBytes(w api.Word) string { return string(large(w).FillBytes(make([]byte, 32))) }

// remembered writes a text into the memory from 0 on, for rememberGas.
func remembered(list string) string {
	code := ""
	for at := 0; at < len(list); at += 32 {
		piece := (list[at:] + bytesOf(32))[:32]
		code += text(push32, piece) + push(uint64(at)) + text(store)
	}
	return code
}

// rememberGas is what it costs to remember n bytes, the memory in it.
func rememberGas(n int) int {
	words := (n + 31) / 32
	return 9*words + whole(words)
}

const (
	sender = 1
	target = 2
	miner  = 3
	atOnce = 21000
	riches = 1 << 62
)

// stage is a world of a sender with the nonce 0 and an account with a code.
func stage(t *testing.T, code string, kept ...api.Slot) *purser.World {
	t.Helper()
	return world(t, api.Account{ID: sender, Balance: of(riches)}, api.Account{ID: target, Balance: of(50), Code: code, Slots: kept})
}

// ask is an order of a call with some gas beside what it costs at once.
func ask(gas int) api.Order {
	return api.Order{From: sender, To: target, Gas: atOnce + gas, Miner: miner}
}

// does does an order that is not refused.
func does(t *testing.T, w *purser.World, o api.Order) api.Result {
	t.Helper()
	r, err := w.Do(o)
	if err != nil {
		t.Fatalf("Do(%+v): refused with %v", o, err)
	}
	return r
}

// find is an account of a world; an empty one, if there is none.
func find(w *purser.World, id int) api.Account {
	for _, a := range w.Accounts() {
		if a.ID == id {
			return a
		}
	}
	return api.Account{}
}

// kept is what an account keeps under a key.
func kept(w *purser.World, id int, key api.Word) api.Word {
	for _, s := range find(w, id).Slots {
		if s.Key == key {
			return s.Value
		}
	}
	return api.Word{}
}

// costs checks that a code ends well, and takes just so much gas: with more of it, with just that, and not with one less. What it tells and gives is the answer.
func costs(t *testing.T, name, code string, gas int, slots ...api.Slot) api.Result {
	t.Helper()
	for _, more := range []int{100000, 1, 0} {
		r := does(t, stage(t, code, slots...), ask(gas+more))
		if !r.Good || r.Gas != atOnce+gas {
			t.Errorf("%s, with %d more gas: %+v, want good with %d", name, more, r, atOnce+gas)
		}
	}
	if gas > 0 {
		failsWith(t, name+", with one less", code, gas-1, slots...)
	}
	return does(t, stage(t, code, slots...), ask(gas))
}

// fails checks that a code ends badly, however much gas there is.
func fails(t *testing.T, name, code string, slots ...api.Slot) {
	t.Helper()
	failsWith(t, name, code, api.MaxGas-atOnce, slots...)
}

// failsWith checks that a code ends badly with some gas, and leaves nothing behind but the gas.
func failsWith(t *testing.T, name, code string, gas int, slots ...api.Slot) {
	t.Helper()
	endsBadly(t, name, stage(t, code, slots...), ask(gas))
}

// endsBadly checks that an order of the sender, who has all its riches, ends badly, and leaves nothing behind but the gas.
func endsBadly(t *testing.T, name string, w *purser.World, o api.Order) {
	t.Helper()
	o.Price, o.Value = 3, of(7)
	want := w.Accounts()
	want[0].Nonce++
	want[0].Balance = of(riches - 3*uint64(o.Gas))
	want = append(want, api.Account{ID: miner, Balance: of(3 * uint64(o.Gas))})
	slices.SortFunc(want, func(a, b api.Account) int { return a.ID - b.ID })
	r := does(t, w, o)
	if !reflect.DeepEqual(r, api.Result{Gas: o.Gas}) {
		t.Errorf("%s: %+v, want a bad end with all the gas, %d", name, r, o.Gas)
	}
	if got := w.Accounts(); !reflect.DeepEqual(plain(got), plain(want)) {
		t.Errorf("P7: %s: accounts %v, want %v", name, got, want)
	}
}

// lays checks which word a code lays on, and what it costs.
func lays(t *testing.T, name, code string, gas int, want api.Word) {
	t.Helper()
	code += push(0) + text(put)
	gas += 3 + 5000
	if want != (api.Word{}) {
		gas += 15000
	}
	costs(t, name, code, gas)
	gives(t, name, code, gas, "", want)
}

// gives checks what a code keeps under 0, called with data.
func gives(t *testing.T, name, code string, gas int, data string, want api.Word) {
	t.Helper()
	w := stage(t, code)
	o := ask(gas)
	o.Data = data
	for i := range len(data) {
		o.Gas += 4
		if data[i] != 0 {
			o.Gas += 64
		}
	}
	if r := does(t, w, o); !r.Good || r.Gas != o.Gas || kept(w, target, of(0)) != want {
		t.Errorf("%s: %+v, keeps %x, want good with %d, %x", name, r, kept(w, target, of(0)), o.Gas, want)
	}
}
