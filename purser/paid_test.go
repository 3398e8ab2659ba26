package purser_test

import (
	"reflect"
	"slices"
	"testing"

	"purser/api"
)

// clears is a code that clears n slots from the key 0 on, for 5006 gas each.
func clears(n int) string {
	code := ""
	for i := range n {
		code += push(0, uint64(i)) + text(put)
	}
	return code
}

// TestGivenBack: P6 and P9, what is given back below, at and above the half of what was taken.
func TestGivenBack(t *testing.T) {
	for _, c := range []struct {
		name         string
		slots, taken int
		want         int
	}{
		{"above the half", 1, 26006, 13003},
		{"above the half of an odd number", 1, 26007, 13004},
		{"just above the half", 1, 29999, 15000},
		{"the half", 1, 30000, 15000},
		{"just below the half", 1, 30001, 15001},
		{"below the half", 1, 30002, 15002},
		{"far below the half", 1, 60002, 45002},
		{"many, above the half", 20, 21000 + 20*5006, 10500 + 10*5006},
		{"two, at the half", 2, 60000, 30000},
		{"two, below the half", 2, 60002, 30002},
	} {
		code := clears(c.slots)
		data, marks := fill(c.taken - atOnce - 5006*c.slots)
		w := stage(t, code+marks, slots(c.slots, of(4))...)
		r := does(t, w, api.Order{From: sender, To: target, Gas: 200000, Price: 2, Data: data, Miner: miner})
		if !r.Good || r.Gas != c.want || len(find(w, target).Slots) != 0 {
			t.Errorf("P6: given back %s: %+v, want %d", c.name, r, c.want)
		}
		if got := find(w, miner).Balance; got != of(uint64(2*c.want)) {
			t.Errorf("P6: given back %s: the miner has %v", c.name, got)
		}
		if got := find(w, sender).Balance; got != of(riches-uint64(2*c.want)) {
			t.Errorf("P6: given back %s: the sender has %v", c.name, got)
		}
	}
}

// fill is data and marks that cost just so much gas.
func fill(gas int) (string, string) {
	data := ""
	for ; gas >= 68 && len(data) < 2000; gas -= 68 {
		data += "x"
	}
	marks := ""
	for ; gas > 0; gas-- {
		marks += text(mark)
	}
	return data, marks
}

// TestGivenBackCounts: P6, what gives back: a slot that is not 0 and becomes so, each time.
func TestGivenBackCounts(t *testing.T) {
	kept1 := api.Slot{Key: of(0), Value: of(4)}
	for _, c := range []struct {
		name, code  string
		taken, back int
	}{
		{"0 for 0", push(0, 9) + text(put), 5006, 0},
		{"another", push(5, 0) + text(put), 5006, 0},
		{"put and cleared", push(5, 9) + text(put) + push(0, 9) + text(put), 25012, 15000},
		{"cleared and put", push(0, 0) + text(put) + push(5, 0) + text(put), 25012, 15000},
		{"cleared, put and cleared", push(0, 0) + text(put) + push(5, 0) + text(put) + push(0, 0) + text(put), 30018, 25509},
		{"cleared twice", push(0, 0) + text(put) + push(0, 0) + text(put), 10012, 15000},
	} {
		r := does(t, stage(t, c.code, kept1), ask(200000))
		want := atOnce + c.taken - min(c.back, (atOnce+c.taken)/2)
		if !r.Good || r.Gas != want {
			t.Errorf("P6: %s: %+v, want %d", c.name, r, want)
		}
	}
	fails(t, "given back, and badly", clears(3)+text(255), slots(3, of(4))...)
}

// TestMiner: P6, who is paid: one that is not there yet, the sender, the account that is called.
func TestMiner(t *testing.T) {
	for _, price := range []uint64{0, 3} {
		for _, code := range []string{push(1) + text(pop), text(255)} {
			for _, id := range []int{miner, sender, target, 999999, 1000000, 4294967295} {
				w := stage(t, code)
				o := ask(1000)
				o.Price, o.Value, o.Miner = int(price), of(7), id
				r := does(t, w, o)
				want := map[int]uint64{sender: riches - price*uint64(r.Gas), target: 50}
				if r.Good {
					want[sender] -= 7
					want[target] += 7
				}
				want[id] += price * uint64(r.Gas)
				got := map[int]uint64{}
				for _, a := range w.Accounts() {
					got[a.ID] = a.Balance[0]
				}
				if !reflect.DeepEqual(got, want) {
					t.Errorf("P6: the miner %d, price %d, good %v: balances %v, want %v", id, price, r.Good, got, want)
				}
			}
		}
	}
}

// TestCalled: P6, whom an order calls: an account without code, one that is not there, the sender itself.
func TestCalled(t *testing.T) {
	for _, c := range []struct {
		to    int
		value uint64
	}{{44, 0}, {44, 9}, {4294967295, 0}, {1000000, 1}, {target, 9}, {sender, 9}, {sender, riches}} {
		w := world(t, api.Account{ID: sender, Balance: of(riches)}, api.Account{ID: target})
		r := does(t, w, api.Order{From: sender, To: c.to, Value: of(c.value), Gas: 30000, Data: "abc", Miner: sender})
		if want := (api.Result{Good: true, Gas: atOnce + 3*68}); !reflect.DeepEqual(r, want) {
			t.Errorf("P6: a call of %d: %+v, want %+v", c.to, r, want)
		}
		ids := []int{sender, target}
		if c.to > target {
			ids = append(ids, c.to)
		}
		want := map[int]uint64{sender: riches}
		want[sender] -= c.value
		want[c.to] += c.value
		var got []int
		for _, a := range w.Accounts() {
			got = append(got, a.ID)
			if a.Balance != of(want[a.ID]) || a.Nonce != 0 && a.ID != sender || a.Code != "" || len(a.Slots) != 0 {
				t.Errorf("P6: a call of %d with %d: the account %+v", c.to, c.value, a)
			}
		}
		if !slices.Equal(got, ids) {
			t.Errorf("P6: a call of %d: accounts %v, want %v", c.to, got, ids)
		}
		if find(w, sender).Nonce != 1 {
			t.Errorf("P6: the sender's nonce is %d", find(w, sender).Nonce)
		}
	}
}

// TestSenderWithCode: P6, a sender may have code, and call itself.
func TestSenderWithCode(t *testing.T) {
	code := text(self, caller, sub) + push(1) + text(put, value) + push(2) + text(put, self, balance) + push(3) + text(put)
	w := world(t, api.Account{ID: sender, Balance: of(riches), Code: code})
	o := api.Order{From: sender, To: sender, Value: of(9), Gas: 100000, Price: 1, Miner: sender}
	r := does(t, w, o)
	if !r.Good || kept(w, sender, of(1)) != of(0) || kept(w, sender, of(2)) != of(9) || kept(w, sender, of(3)) != of(riches-100000) || find(w, sender).Balance != of(riches) || find(w, sender).Nonce != 1 {
		t.Errorf("P6: %+v, %v", r, w.Accounts())
	}
}

// TestManyAccounts: P6, the bound of accounts is that of a world that is made.
func TestManyAccounts(t *testing.T) {
	list := accounts(64)
	w := world(t, list...)
	does(t, w, api.Order{From: 1, To: 1000, Gas: atOnce, Miner: 2000})
	if n := len(w.Accounts()); n != 66 {
		t.Errorf("P6: %d accounts, want 66", n)
	}
}
