package purser_test

import (
	"math/big"
	"slices"
	"testing"

	"purser/api"
	"purser/purser"
)

// destroying is a Destroy that gives to an account; to lay the word on costs 3.
func destroying(heir uint64) string { return push(heir) + text(destroy) }

// dear is a code that costs 40012, so that what is given back is not cut by the half.
func dear() string { return push(1, 100) + text(put) + push(1, 101) + text(put) }

const dearGas = 40012

// loses checks how many coins went with what an order destroyed (P8).
func loses(t *testing.T, name string, w *purser.World, o api.Order, coins int64) api.Result {
	t.Helper()
	before := sumOf(w.Accounts())
	r := does(t, w, o)
	if gone := new(big.Int).Sub(before, sumOf(w.Accounts())); gone.Cmp(big.NewInt(coins)) != 0 {
		t.Errorf("P8: %s: %v coins went, want %d", name, gone, coins)
	}
	return r
}

// TestDestroy: P6 and P8, whom an account may give to: one that is there, one that is not (for no more gas), the account 0.
func TestDestroy(t *testing.T) {
	for _, heir := range []int{other, 77, 0, 1<<32 - 1, 1000000} {
		w := cast(t, dear()+destroying(uint64(heir))+text(255), "")
		o := ask(100000)
		o.Value = of(3)
		r := loses(t, "Destroy", w, o, 0)
		if want := atOnce + dearGas + 3 - 24000; !r.Good || r.Gas != want || r.Out != "" {
			t.Errorf("P6: Destroy: %+v, want %d", r, want)
		}
		got := 53
		if heir == other {
			got = 103
		}
		has(t, "Destroy", w, target, -1, heir, got)
	}
	for _, a := range []api.Word{of(other + 1<<32), of(other + 1<<63), {other, 1}, {other, 0, 0, 1 << 63}} {
		w := cast(t, pushWord(a)+text(destroy), "")
		plays(t, "by the lowest 32 bits", w, -1)
		has(t, "by the lowest 32 bits", w, target, -1, other, 100)
	}
	// even no coins make an account
	w := world(t, api.Account{ID: sender}, api.Account{ID: target, Code: destroying(77)})
	plays(t, "no coins", w, -1)
	has(t, "no coins", w, target, -1, 77, 0)
	// all it needs is the gas for the word
	w = cast(t, destroying(77))
	if r := does(t, w, ask(3)); !r.Good || r.Gas != atOnce+3-10501 {
		t.Errorf("P6: Destroy with just the gas for its word: %+v", r)
	}
	failsWith(t, "Destroy with one less", destroying(77), 2)
	fails(t, "Destroy of no word", text(destroy))
}

// TestDestroyGivesBack: P6 and P9, 24000 are given back, at most half of what was taken.
func TestDestroyGivesBack(t *testing.T) {
	for _, taken := range []int{21003, 21004, 47998, 47999, 48000, 48001, 48002, 90000} {
		data, marks := fill(taken - atOnce - 3)
		w := cast(t, marks+destroying(77))
		r := does(t, w, api.Order{From: sender, To: target, Gas: 200000, Price: 2, Data: data, Miner: miner})
		want := taken - min(24000, taken/2)
		if !r.Good || r.Gas != want || 2*r.Gas < atOnce {
			t.Errorf("P6: of %d taken: %+v, want %d", taken, r, want)
		}
		has(t, "given back", w, sender, riches-2*want, miner, 2*want)
	}
	// with what Put gives back
	w := world(t, api.Account{ID: sender, Balance: of(riches)}, api.Account{ID: target, Code: dear() + clears(1) + destroying(77), Slots: slots(1, of(1))})
	if taken, r := atOnce+dearGas+5006+3, does(t, w, ask(100000)); r.Gas != taken-taken/2 {
		t.Errorf("P6: 39000 given back of %d: %+v", taken, r)
	}
	w = world(t, api.Account{ID: sender, Balance: of(riches)}, api.Account{ID: target, Code: dear() + dear() + push(1, 102) + text(put) + clears(1) + destroying(77), Slots: slots(1, of(1))})
	if r := does(t, w, ask(200000)); r.Gas != atOnce+dearGas+2*5006+20006+5006+3-39000 {
		t.Errorf("P6: 39000 given back: %+v", r)
	}
}

// TestDestroyItself: P8, coins that an account gives to itself go with it.
func TestDestroyItself(t *testing.T) {
	w := cast(t, destroying(target))
	o := ask(100)
	o.Value = of(7)
	if r := loses(t, "for itself", w, o, 57); !r.Good || r.Gas != atOnce+3-10501 {
		t.Errorf("P6: for itself: %+v", r)
	}
	has(t, "for itself", w, target, -1)
}

// TestDestroyTwice: P6 and P8, an account is destroyed once; it is there until the end, and what it is given goes with it.
func TestDestroyTwice(t *testing.T) {
	// 10 tells what it has and keeps, puts, and is destroyed; 2 calls it, gives it 5, and calls it with 4 more
	callee := text(self, balance) + telling() + push(1) + text(keep) + telling() + push(8, 1) + text(put) + destroying(77)
	w := cast(t, dear()+calls(30000, other)+telling()+calling(30000, other, 5, 0, 0, 0, 0)+telling(), callee)
	r := loses(t, "twice", w, ask(300000), 0)
	tells(t, "twice", r, 50, 0, 1, 5, 8, 1)
	first := 22 + tellGas + 53 + tellGas + 20006 + 3
	want := atOnce + dearGas + 2*(callWords+40+tellGas) + 9000 - 2300 + first + first - 15000 - 24000
	if r.Gas != want {
		t.Errorf("P6: twice: %d gas, want %d", r.Gas, want)
	}
	has(t, "twice", w, other, -1, 77, 55, target, 45)
	// coins behind it
	w = cast(t, calls(1000, other)+text(pop)+calling(0, other, 9, 0, 0, 0, 0)+telling()+push(other)+text(balance)+telling(), skipping(text(value), destroying(77)))
	r = loses(t, "coins behind it", w, ask(100000), 9)
	tells(t, "coins behind it", r, 1, 9)
	has(t, "coins behind it", w, other, -1, 77, 50, target, 41)
	// one that is to be destroyed gives to another that is
	w = cast(t, calls(1000, other)+text(pop)+calls(1000, other+1), destroying(other+1), destroying(other))
	loses(t, "one to the other", w, ask(100000), 100)
	has(t, "one to the other", w, other, -1, other+1, -1, target, 50)
	// and there is no account that a call would make anew
	w = cast(t, calls(1000, other)+text(pop)+measured(calls(0, other)), destroying(77))
	r = plays(t, "a call behind it", w, -1)
	tells(t, "a call behind it", r, 0, callWords+40+measureGas)
}

// TestDestroyByLoan: P6, code that is lent destroys the account that it runs for, and the frame that lent it goes on.
func TestDestroyByLoan(t *testing.T) {
	w := cast(t, lending(100, other, 0, 0, 0, 0)+telling()+text(self, balance)+telling(), destroying(77))
	r := loses(t, "by a loan", w, ask(100000), 0)
	tells(t, "by a loan", r, 1, 0)
	has(t, "by a loan", w, target, -1, other, 50, 77, 50)
}

// TestDestroyPaid: P6 and P8, the sender and the Miner are paid ahead of what is destroyed, and it goes with them.
func TestDestroyPaid(t *testing.T) {
	sends := func(code string) *purser.World {
		return world(t, api.Account{ID: sender, Balance: of(1000000), Code: code}, api.Account{ID: target, Balance: of(50), Code: destroying(77)})
	}
	// the sender gives all it has left to 77, and what it is paid back goes with it
	w := sends(destroying(77))
	o := api.Order{From: sender, To: sender, Gas: 100000, Price: 3, Miner: miner}
	used := atOnce + 3 - 10501
	r := loses(t, "the sender", w, o, int64(3*(100000-used)))
	if !r.Good || r.Gas != used {
		t.Errorf("P6: the sender is destroyed: %+v, want %d", r, used)
	}
	has(t, "the sender", w, sender, -1, 77, 700000, miner, 3*used)
	refuses(t, "the sender, gone", w, o, api.NoSender)
	// the Miner is the one that is called
	w = sends("")
	o = api.Order{From: sender, To: target, Gas: 100000, Price: 3, Miner: target}
	loses(t, "the Miner", w, o, int64(3*used))
	has(t, "the Miner", w, sender, 1000000-3*used, target, -1, 77, 50)
	// the sender is the Miner too
	w = sends(destroying(77))
	o = api.Order{From: sender, To: sender, Gas: 100000, Price: 3, Miner: sender}
	loses(t, "both", w, o, 300000)
	has(t, "both", w, sender, -1, 77, 700000)
	// the Miner is whom the coins are given to
	w = sends("")
	o = api.Order{From: sender, To: target, Gas: 100000, Price: 3, Miner: 77}
	loses(t, "the Miner as heir", w, o, 0)
	has(t, "the Miner as heir", w, target, -1, 77, 50+3*used)
}

// TestDestroyedAnew: P6, what was destroyed may come to be again, without anything of what it was.
func TestDestroyedAnew(t *testing.T) {
	list := []api.Account{{ID: sender, Balance: of(riches)}, {ID: target, Balance: of(50), Nonce: 6, Code: destroying(77), Slots: slots(3, of(4))}}
	w := world(t, list...)
	plays(t, "destroyed", w, -1)
	has(t, "destroyed", w, target, -1)
	does(t, w, api.Order{From: sender, To: target, Nonce: 1, Value: of(8), Gas: atOnce, Miner: miner})
	if got := find(w, target); got.Balance != of(8) || got.Nonce != 0 || got.Code != "" || len(got.Slots) != 0 {
		t.Errorf("P6: come to be anew: %+v", got)
	}
	// and it is not to be destroyed any more
	does(t, w, api.Order{From: sender, To: target, Nonce: 2, Value: of(8), Gas: atOnce, Miner: miner})
	has(t, "come to be anew", w, target, 16)
}

// TestDestroyedWhileCreated: P6, an account that is destroyed by its own creation was created, and is gone.
func TestDestroyedWhileCreated(t *testing.T) {
	w := cast(t, "")
	o := founds(push(1, 1)+text(put)+destroying(77), 50000)
	o.Value = of(9)
	r := loses(t, "an order", w, o, 0)
	taken := foundsAtOnce(o.Data) + 20006 + 3
	if !r.Good || r.Created != 1000000 || r.Gas != taken-24000 {
		t.Errorf("P6: destroyed by its own creation: %+v, want %d", r, taken-24000)
	}
	has(t, "an order", w, 1000000, -1, 77, 9)
	w = cast(t, creating(4, destroying(77))+keeping(0))
	plays(t, "Create", w, -1)
	keeps(t, "Create", w, target, 1000000)
	has(t, "Create", w, 1000000, -1, 77, 4, target, 46)
	// P9: what two give back is more than the half
	code := calls(3, other) + destroying(77)
	taken = foundsAtOnce(code) + callWords + 40 + 3 + 3
	if r := does(t, cast(t, "", destroying(77)), founds(code, 1000)); !r.Good || r.Gas != taken-taken/2 || 2*r.Gas < foundsAtOnce(code) {
		t.Errorf("P9: %+v, want %d", r, taken-taken/2)
	}
}

// TestDestroyUndone: P7, an account whose end is undone stays, gives nothing back, and may be destroyed later.
func TestDestroyUndone(t *testing.T) {
	first := calls(20000, other) // 10 calls 11, which is destroyed, and ends badly
	w := cast(t, dear()+first+telling(), calls(1000, other+1)+text(255), destroying(77))
	r := loses(t, "undone", w, ask(200000), 0)
	if want := atOnce + dearGas + callWords + 40 + 20000 + tellGas; r.Gas != want {
		t.Errorf("P7: undone: %+v, want %d", r, want)
	}
	tells(t, "undone", r, 0)
	has(t, "undone", w, other+1, 50, 77, -1)
	w = cast(t, dear()+first+telling()+calls(1000, other+1)+telling()+calls(1000, other+1)+telling(), calls(1000, other+1)+text(255), destroying(77))
	r = loses(t, "undone, and destroyed", w, ask(200000), 0)
	if want := atOnce + dearGas + callWords + 40 + 20000 + tellGas + 2*(callWords+40+3+tellGas) - 24000; r.Gas != want {
		t.Errorf("P7: undone, and destroyed: %+v, want %d", r, want)
	}
	has(t, "undone, and destroyed", w, other+1, -1, 77, 50)
	// what was to be destroyed ahead of what is undone still is
	w = cast(t, dear()+calls(1000, other+1)+text(pop)+first+telling(), calls(1000, other+1)+text(255), destroying(77))
	r = loses(t, "destroyed, and undone", w, ask(200000), 0)
	if want := atOnce + dearGas + callWords + 40 + 3 + 2 + callWords + 40 + 20000 + tellGas - 24000; r.Gas != want {
		t.Errorf("P7: destroyed, and undone: %+v, want %d", r, want)
	}
	has(t, "destroyed, and undone", w, other+1, -1, 77, 50)
	// an order that ends badly destroys none, and none of those behind it
	w = cast(t, calls(1000, other)+text(255), destroying(77))
	endsBadly(t, "an order", w, ask(200000))
	ids := []int{}
	for _, a := range w.Accounts() {
		ids = append(ids, a.ID)
	}
	if want := []int{sender, target, miner, other}; !slices.Equal(ids, want) {
		t.Errorf("P7: there are %v, want %v", ids, want)
	}
	does(t, w, api.Order{From: sender, To: 78, Nonce: 1, Gas: atOnce, Miner: miner})
	has(t, "an order behind it", w, other, 50)
}
