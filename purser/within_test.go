package purser_test

import (
	"reflect"
	"slices"
	"testing"

	"purser/api"
	"purser/purser"
)

// nest is a world in which the target calls 10, which calls 11, which does something; the codes end with what is handed in for each. Ahead of it and behind it the target calls 12 and 13, which do much.
func nest(t *testing.T, code string, ends [3]string, reaches bool) *purser.World {
	t.Helper()
	middle := ""
	if reaches {
		middle = calls(nestGas, other) + text(pop)
	}
	much := push(7) + telling() + push(6, 6) + text(put) + push(0, 1) + text(put) + calling(0, other+4, 3, 0, 0, 0, 0) + text(pop)
	list := []api.Account{{ID: sender, Balance: of(riches)}, {ID: target, Balance: of(50)}}
	for i, code := range []string{
		calls(nestGas-50000, other+1) + text(pop) + ends[1], code + ends[0],
		much, much, "", destroying(77),
	} {
		list = append(list, api.Account{ID: other + i, Balance: of(50), Code: code, Slots: slots(4, of(5))})
	}
	list[1].Code = calls(100000, other+2) + text(pop) + middle + calls(100000, other+3) + text(pop) + ends[2]
	return world(t, list...)
}

const nestGas = 300000

// codeless is the accounts of a nest without the codes of those that differ in how they end.
func codeless(w *purser.World) []api.Account {
	list := plain(w.Accounts())
	for i := range list {
		switch list[i].ID {
		case target, other, other + 1:
			list[i].Code = ""
		}
	}
	return list
}

// kinds is what may be undone, each by a code that the account 11 runs.
func kinds() map[string]string {
	return map[string]string{
		"coins":                            calling(0, other+4, 5, 0, 0, 0, 0),
		"coins to what is not":             calling(0, 77, 5, 0, 0, 0, 0),
		"an account that came to be":       calls(0, 77),
		"the account 0":                    calls(0, 0),
		"a nonce":                          push(0, 0, 0) + text(create),
		"a creation with a code":           creating(4, givesText("\x01\x02")),
		"a creation within one":            creating(4, creating(2, givesText("\x03"))+givesText("\x01\x02")),
		"coins to what was created":        push(0, 0, 0) + text(create) + push(0, 0, 0, 0, 1) + text(dup1+5) + push(0) + text(call),
		"a slot":                           push(9, 9) + text(put),
		"a slot over another":              push(9, 1) + text(put),
		"what is given back":               push(0, 1) + text(put),
		"what was told":                    push(9) + telling(),
		"what is to be destroyed":          calls(100, other+5),
		"the caller's caller is destroyed": calls(100, other+5) + text(pop) + lending(100, other+5, 0, 0, 0, 0),
		"slots by a loan":                  lending(90000, other+2, 0, 0, 0, 0),
		"all in turn":                      push(9, 9) + text(put) + calling(0, 77, 5, 0, 0, 0, 0) + creating(1, "") + push(9) + telling() + push(0, 1) + text(put) + calls(100, other+5),
	}
}

// TestUndoneWithin: P7, of each kind of change: what is undone in frames within frames, while what was done ahead of them and behind them stays.
func TestUndoneWithin(t *testing.T) {
	for name, code := range kinds() {
		plainly := nest(t, code, [3]string{}, false)
		without := plays(t, name, plainly, -1)
		// it ends well: something came of it
		w := nest(t, code, [3]string{}, true)
		r := plays(t, name, w, -1)
		if reflect.DeepEqual(codeless(w), codeless(plainly)) && reflect.DeepEqual(r.Logs, without.Logs) {
			t.Errorf("P6: %s: nothing came of it", name)
		}
		// it ends badly itself, or the one who called it does: all is as it would be without, but for the gas
		for where, c := range map[string]struct {
			ends [3]string
			gas  int
		}{
			"in the frame itself":   {[3]string{text(255), "", ""}, 2*(callWords+42) + nestGas - 50000},
			"in the one who called": {[3]string{"", text(255), ""}, callWords + 42 + nestGas},
			"in both":               {[3]string{text(255), text(255), ""}, callWords + 42 + nestGas},
		} {
			w := nest(t, code, c.ends, true)
			r := plays(t, name, w, without.Gas-atOnce+c.gas)
			if !reflect.DeepEqual(codeless(w), codeless(plainly)) || !reflect.DeepEqual(r.Logs, without.Logs) {
				t.Errorf("P7: %s, undone %s: %+v, %v,\nwant %v", name, where, r, codeless(w), codeless(plainly))
			}
		}
		endsBadly(t, name+", undone with the order", nest(t, code, [3]string{"", "", text(255)}, true), ask(900000))
	}
}

// TestUndoneWithinCreation: P7, of each kind of change: what is undone of a creation that ends badly, by an order and by an instruction, for each reason.
func TestUndoneWithinCreation(t *testing.T) {
	for name, code := range kinds() {
		for why, end := range map[string]string{
			"no instruction": text(255),
			"too long":       push(2001, 0) + text(give),
			"too dear":       push(1900, 0) + text(give),
		} {
			name := "a creation, " + name + ", " + why
			endsBadly(t, name+", by an order", nest(t, "", [3]string{}, true), founds(code+end, 200000))
			// the creation takes all the gas: the frame that creates ends well if it has no more to run, and its nonce stays
			createsBadly(t, name, creating(20, code+end), 1)
			createsBadly(t, name+", and the frame too", creating(20, code+end)+push(1), 0)
		}
	}
}

// createsBadly checks that of a creation by the account 10 nothing is left but a nonce, if the frame that creates ends well.
func createsBadly(t *testing.T, name, code string, nonce int) {
	t.Helper()
	w := cast(t, calls(400000, other)+telling(), code, "", "", "", "", destroying(77))
	want := w.Accounts()
	want[0].Nonce++
	want[2].Nonce += nonce
	r := plays(t, name, w, callWords+40+400000+tellGas)
	tells(t, name, r, uint64(nonce))
	got := slices.DeleteFunc(w.Accounts(), func(a api.Account) bool { return a.ID == miner })
	if !reflect.DeepEqual(plain(got), plain(want)) {
		t.Errorf("P7: %s: %v, want %v", name, got, want)
	}
}

// TestUndonePrice: P6, what came to be and was undone is not there: to call it costs as much as ever.
func TestUndonePrice(t *testing.T) {
	w := cast(t, measured(calls(0, 77))+calls(40000, other)+text(pop)+measured(calls(0, 77))+measured(calls(0, 78)), calls(0, 78)+text(255))
	r := plays(t, "what came to be", w, -1)
	tells(t, "what came to be", r, 1, callWords+25040+measureGas, 1, callWords+40+measureGas, 1, callWords+25040+measureGas)
	// a slot that was put and undone costs as a fresh one
	inner := push(5, 1) + text(put, 255)
	w = cast(t, calls(30000, other)+telling()+calls(30000, other+1)+telling(), inner, push(5, 1)+text(put))
	plays(t, "a slot", w, 2*(callWords+40+tellGas)+30000+20006)
}

// TestCoinsStay: P8, coins go round among accounts, and none come to be.
func TestCoinsStay(t *testing.T) {
	round := calling(60000, other, 20, 0, 0, 0, 0) + text(pop) + calling(60000, other+1, 31, 0, 0, 0, 0) + text(pop) + calling(0, sender, 1, 0, 0, 0, 0) + text(pop) + creating(2, calling(0, other+2, 1, 0, 0, 0, 0))
	w := cast(t, round, calling(20000, other+1, 70, 0, 0, 0, 0)+text(255), calling(0, other+2, 81, 0, 0, 0, 0), "")
	o := ask(800000)
	o.Value, o.Price = of(9), 7
	r := loses(t, "round", w, o, 0)
	if !r.Good {
		t.Errorf("P6: %+v", r)
	}
	has(t, "round", w, sender, riches-9+1-7*r.Gas, target, 50+9-31-1-2, other, 50, other+1, 0, other+2, 50+81+1, 1000000, 1, miner, 7*r.Gas)
	// a world with all the coins that there may be
	w = world(t, api.Account{ID: sender, Balance: minus(51)}, api.Account{ID: target, Balance: of(50), Code: push(0, 0, 0, 0) + text(self, balance) + push(other, 0) + text(call)})
	o = ask(100000)
	o.Value = minus(51)
	loses(t, "all coins", w, o, 0)
	if got := find(w, other).Balance; got != greatest {
		t.Errorf("P6: all coins: %v", got)
	}
}
