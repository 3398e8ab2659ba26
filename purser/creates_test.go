package purser_test

import (
	"testing"

	"purser/api"
)

// founds is an order that creates, with some gas beside what it costs at once.
func founds(code string, gas int) api.Order {
	return api.Order{From: sender, Data: code, Gas: foundsAtOnce(code) + gas, Miner: miner}
}

func foundsAtOnce(code string) int {
	cost := atOnce + 32000
	for i := range len(code) {
		cost += 4
		if code[i] != 0 {
			cost += 64
		}
	}
	return cost
}

// TestCreateNeeds: P6, what Create costs, with just the gas for it and one less.
func TestCreateNeeds(t *testing.T) {
	for name, c := range map[string]struct {
		v, b, c uint64
		price   int
	}{
		"of no bytes":       {0, 0, 0, 32000},
		"of none, far away": {0, 1 << 50, 0, 32000},
		"with all it has":   {50, 0, 0, 32000},
		"of a byte":         {0, 0, 1, 32000 + 3},
		"over the edge":     {0, 31, 2, 32000 + 6},
		"behind the edge":   {1, 64, 1, 32000 + 9},
		"of many bytes":     {0, 0, 32 * 724, 32000 + 2172 + 1023},
	} {
		needs(t, "Create "+name, createWords+c.price, createWords+c.price, push(c.c, c.b, c.v)+text(create))
	}
	for _, far := range []api.Word{of(1<<32 - 1), of(1 << 32), of(top), {0, 1}, greatest, minus(1)} {
		endsBadly(t, "Create far away", cast(t, push(1)+pushWord(far)+push(0)+text(create)), ask(500000))
		endsBadly(t, "Create of many bytes", cast(t, pushWord(far)+push(1, 0)+text(create)), ask(500000))
	}
}

// TestCreate: P6, what is created has the code that was given, the value, and the nonce 0; the one who creates has the ID and a higher nonce.
func TestCreate(t *testing.T) {
	given := push(7) + telling()
	code := givesText(given)
	w := cast(t, creating(5, code)+keeping(0)+text(gasLeft)+telling())
	inside := rememberGas(len(given)) + 6 + 200*len(given)
	r := plays(t, "Create", w, rememberGas(len(code))+createWords+32000+inside+20003+2+tellGas)
	keeps(t, "Create", w, target, 1000000)
	has(t, "Create", w, target, 45, 1000000, 5)
	if a := find(w, 1000000); a.Code != given || a.Nonce != 0 || len(a.Slots) != 0 {
		t.Errorf("P6: created %+v, want the code %x", a, given)
	}
	if n := find(w, target).Nonce; n != 1 {
		t.Errorf("P6: the nonce of the one who created is %d", n)
	}
	if r.Created != 0 || r.Out != "" {
		t.Errorf("P6: a call that creates: %+v", r)
	}
	// it may be called from now on
	r = does(t, w, api.Order{From: sender, To: 1000000, Nonce: 1, Gas: 30000, Miner: miner})
	tells(t, "a call of what was created", r, 7)
}

// TestCreateSees: P6, what the frame of a creation has: the new account, the one who creates, the value, no data.
func TestCreateSees(t *testing.T) {
	sees := text(self) + telling() + text(caller) + telling() + text(value) + telling() + text(size) + telling() + push(0) + text(arg) + telling() + text(room) + telling() + text(self, balance) + telling() + text(caller, balance) + telling()
	w := cast(t, creating(5, sees))
	r := plays(t, "what a creation sees", w, -1)
	tells(t, "what a creation sees", r, 1000000, target, 5, 0, 0, 0, 5, 45)
	for _, l := range r.Logs {
		if l.Account != 1000000 {
			t.Errorf("P6: what was told of %d", l.Account)
		}
	}
	w = cast(t, "")
	o := founds(sees, 100000)
	o.Value = of(9)
	r = does(t, w, o)
	tells(t, "what an order's creation sees", r, 1000000, sender, 9, 0, 0, 0, 9, riches-9)
	// all the gas that is left is the new one's, and what it leaves comes back
	w = cast(t, creating(0, text(gasLeft)+telling())+text(pop, gasLeft)+telling())
	left := api.MaxGas - atOnce - rememberGas(6) - createWords - 32000 - 2
	tells(t, "the gas of a creation", plays(t, "the gas", w, -1), uint64(left), uint64(left-tellGas-2-2))
}

// TestCreateLays: P6, 0 for a creation that ends badly, which takes all the gas; the nonce stays raised.
func TestCreateLays(t *testing.T) {
	for name, code := range map[string]string{
		"no instruction": text(255),
		"too few words":  text(pop),
		"no Mark":        push(0) + text(jump),
		"a loop":         text(mark) + push(0) + text(jump),
		"too long":       push(2001, 0) + text(give),
		"too dear":       push(1999, 0) + text(give),
	} {
		w := cast(t, calls(100000, other)+telling(), push(1, 1)+text(put)+creating(5, code), "")
		r := plays(t, name, w, callWords+40+100000+tellGas)
		tells(t, name, r, 1)
		keeps(t, name, w, other, 0, 1)
		has(t, name, w, other, 50, 1000000, -1)
		if n := find(w, other).Nonce; n != 1 {
			t.Errorf("P6: a creation, %s: the nonce is %d, want 1", name, n)
		}
		// nothing is left for what comes behind it
		w = cast(t, calls(100000, other)+telling(), push(1, 1)+text(put)+creating(5, code)+text(pop), "")
		r = plays(t, name, w, callWords+40+100000+tellGas)
		tells(t, name, r, 0)
		keeps(t, name, w, other, 0, 0)
		if n := find(w, other).Nonce; n != 0 {
			t.Errorf("P7: a creation, %s, undone: the nonce is %d, want 0", name, n)
		}
	}
}

// TestCreateValue: P6, a value that the account just has, and one more: no ID is taken then, and no nonce raised; the gas stays.
func TestCreateValue(t *testing.T) {
	for _, c := range []struct {
		v    api.Word
		good bool
	}{{of(0), true}, {of(49), true}, {of(50), true}, {of(51), false}, {api.Word{1, 1}, false}, {greatest, false}} {
		w := cast(t, push(0, 0)+pushWord(c.v)+text(create)+keeping(0))
		if c.good {
			plays(t, "a value", w, createWords+32000+20003)
			keeps(t, "a value", w, target, 1000000)
			has(t, "a value", w, target, 50-int(c.v[0]), 1000000, int(c.v[0]))
			continue
		}
		plays(t, "more than it has", w, createWords+32000+5003)
		keeps(t, "more than it has", w, target, 0)
		has(t, "more than it has", w, target, 50, 1000000, -1)
		if n := find(w, target).Nonce; n != 0 {
			t.Errorf("P6: more than it has: the nonce is %d", n)
		}
		if r := does(t, w, api.Order{From: sender, Nonce: 1, Gas: 60000, Miner: miner}); r.Created != 1000000 {
			t.Errorf("P6: behind a creation that was not begun: %+v", r)
		}
	}
}

// TestCreatedLength: P6, a code of 2000 bytes, with just gas enough for it and one less, and one of 2001, with any gas.
func TestCreatedLength(t *testing.T) {
	for _, n := range []int{0, 1, 2, 31, 32, 33, 1999, 2000} {
		code := push(uint64(n), 0) + text(give)
		cost := 6 + whole((n+31)/32) + 200*n
		for _, more := range []int{0, 1, 500} {
			w := cast(t, "")
			r := does(t, w, founds(code, cost+more))
			if !r.Good || r.Gas != foundsAtOnce(code)+cost || r.Created != 1000000 || r.Out != "" || find(w, 1000000).Code != bytesOf(n) {
				t.Errorf("P6: a code of %d bytes, with %d more gas: %+v", n, more, r)
			}
		}
		endsBadly(t, "one less", cast(t, ""), founds(code, cost-1))
		// by an instruction
		ahead := rememberGas(len(code)) + createWords + 32000
		for less := range 2 {
			w := cast(t, creating(0, code))
			r := does(t, w, ask(ahead+cost-less))
			if !r.Good || r.Gas != atOnce+ahead+cost-less || len(find(w, 1000000).Code) != n*(1-less) || find(w, target).Nonce != 1 {
				t.Errorf("P6: a code of %d bytes by Create, with %d less gas: %+v", n, less, r)
			}
			has(t, "a code by Create", w, 1000000, -less)
		}
	}
	for _, n := range []uint64{2001, 2002, 2500, 4000} {
		endsBadly(t, "a code that is too long", cast(t, ""), founds(push(n, 0)+text(give), api.MaxGas-60000))
		w := cast(t, calls(900000, other), creating(5, push(n, 0)+text(give)))
		plays(t, "a code that is too long", w, callWords+40+900000)
		has(t, "a code that is too long", w, 1000000, -1, other, 50)
	}
}

// TestCreatedMarks: P6, the code of a creation and the code that it gives each have their own marks.
func TestCreatedMarks(t *testing.T) {
	given := push(4) + text(jump, 255, mark) + push(7) + telling()
	code := push(5) + text(jump, 255, 255, mark) + givesText(given)
	w := cast(t, creating(0, code)+push(0, 0, 0, 0, 0)+text(dup1+5)+push(10000)+text(call)+telling())
	tells(t, "a call of what was created", plays(t, "marks", w, -1), 7, 1)
	r := does(t, w, api.Order{From: sender, To: 1000000, Nonce: 1, Gas: 30000, Miner: miner})
	tells(t, "a call of what was created, later", r, 7)
	endsBadly(t, "a Mark within a Push", cast(t, ""), founds(push(4)+text(jump, push1, mark), 10000))
	endsBadly(t, "a Mark of another code", cast(t, ""), founds(push(4)+text(jump, 255, 0)+given, 10000))
}

// TestUnfinished: P6, as long as an account is being created it has no code.
func TestUnfinished(t *testing.T) {
	given := push(7) + telling()
	callsItself := push(0, 0, 0, 0, 0) + text(self) + push(1000) + text(call) + telling()
	w := cast(t, "")
	r := does(t, w, founds(callsItself+givesText(given), 100000))
	tells(t, "a call of what is being created", r, 1)
	r = does(t, w, api.Order{From: sender, To: 1000000, Nonce: 1, Gas: 30000, Miner: miner})
	tells(t, "a call of what was created", r, 7)
	// it may put slots, and create
	w = cast(t, "")
	r = does(t, w, founds(push(3, 2)+text(put)+push(0, 0, 0)+text(create)+keeping(0), 200000))
	if a := find(w, 1000000); !r.Good || r.Created != 1000000 || a.Nonce != 1 || kept(w, 1000000, of(0)) != of(1000001) || kept(w, 1000000, of(2)) != of(3) {
		t.Errorf("P6: %+v, %+v", r, a)
	}
	has(t, "created by what was being created", w, 1000000, 0, 1000001, 0)
}

// TestCreatedIDs: P6, each creation has an ID of its own, also behind those that were undone, in one order and in others.
func TestCreatedIDs(t *testing.T) {
	well, badly := creating(0, ""), creating(0, text(255))
	// 10 creates badly; 11 creates well and ends badly; 12 creates well
	w := cast(t, calls(50000, other)+text(pop)+calls(90000, other+1)+text(pop)+calls(40000, other+2)+text(pop)+well+keeping(0), badly, well+text(255), well)
	plays(t, "IDs", w, -1)
	keeps(t, "IDs", w, target, 1000003)
	has(t, "IDs", w, 1000000, -1, 1000001, -1, 1000002, 0, 1000003, 0)
	for id, nonce := range map[int]int{other: 1, other + 1: 0, other + 2: 1, target: 1} {
		if got := find(w, id).Nonce; got != nonce {
			t.Errorf("P6: the nonce of %d is %d, want %d", id, got, nonce)
		}
	}
	nonce := 1
	for _, c := range []struct {
		code string
		want int
	}{{"", 1000004}, {text(255), 0}, {text(255), 0}, {push(1), 1000007}, {"", 1000008}} {
		o := founds(c.code, 10000)
		o.Nonce = nonce
		nonce++
		if r := does(t, w, o); r.Created != c.want || r.Good != (c.want != 0) {
			t.Errorf("P6: the next order: %+v, want %d", r, c.want)
		}
	}
	// a refused order takes none
	refuses(t, "too little gas", w, api.Order{From: sender, Nonce: nonce, Gas: 52999, Miner: miner}, api.LittleGas)
	if r := does(t, w, api.Order{From: sender, Nonce: nonce, Gas: 53000, Miner: miner}); r.Created != 1000009 {
		t.Errorf("P6: behind a refused order: %+v", r)
	}
	// P2: another world counts by itself
	if r := does(t, cast(t, ""), founds("", 0)); r.Created != 1000000 {
		t.Errorf("P2: the first of another world: %+v", r)
	}
}

// TestCoinsAhead: P6, an account that has coins ahead of its creation keeps them, whether it ends well or badly.
func TestCoinsAhead(t *testing.T) {
	for code, good := range map[string]bool{givesText("\x00"): true, text(255): false} {
		w := cast(t, "")
		does(t, w, api.Order{From: sender, To: 1000000, Value: of(7), Gas: atOnce, Miner: miner})
		o := founds(text(self, balance)+telling()+code, 100000)
		o.Nonce, o.Value = 1, of(5)
		r := does(t, w, o)
		if good {
			tells(t, "coins ahead", r, 12)
			has(t, "coins ahead", w, 1000000, 12)
		} else {
			has(t, "coins ahead, badly", w, 1000000, 7)
		}
		if r.Good != good || (r.Created == 1000000) != good || (find(w, 1000000).Code == "\x00") != good {
			t.Errorf("P6: coins ahead: %+v, %+v", r, w.Accounts())
		}
	}
	// sent by a call in the order that creates it, and even none
	w := cast(t, calling(0, 1000000, 4, 0, 0, 0, 0)+text(pop)+calls(0, 1000001)+text(pop)+creating(3, "")+text(pop)+creating(2, ""))
	plays(t, "coins ahead by a call", w, 2*(callWords+25042)+9000-2300+2*(createWords+32000)+2)
	has(t, "coins ahead by a call", w, 1000000, 7, 1000001, 2, target, 41)
	// the call alone makes the account, and a creation that is undone does not take it away
	w = cast(t, calls(0, 1000000)+text(pop)+calls(60000, other), creating(3, text(255)))
	plays(t, "an account ahead", w, callWords+25042+callWords+40+60000)
	has(t, "an account ahead", w, 1000000, 0, other, 50)
}

// TestCreatedSends: P5 and P6, an account with a created one's ID may send ahead of its creation, and even create itself.
func TestCreatedSends(t *testing.T) {
	w := cast(t, "")
	does(t, w, api.Order{From: sender, To: 1000000, Value: of(1000000), Gas: atOnce, Miner: miner})
	does(t, w, api.Order{From: 1000000, To: target, Value: of(1), Gas: atOnce, Price: 2, Miner: miner})
	has(t, "sent by it", w, 1000000, 1000000-42001, target, 51)
	code := text(caller, self, sub) + telling() + text(self, balance) + telling() + givesText("\x30")
	gas := foundsAtOnce(code) + 20000
	r := does(t, w, api.Order{From: 1000000, Nonce: 1, Value: of(5), Gas: gas, Price: 1, Data: code, Miner: 1000000})
	tells(t, "created by itself", r, 0, uint64(1000000-42001-gas))
	has(t, "created by itself", w, 1000000, 1000000-42001)
	if a := find(w, 1000000); r.Created != 1000000 || a.Nonce != 2 || a.Code != "\x30" {
		t.Errorf("P6: created by itself: %+v, %+v", r, a)
	}
}

// TestFounds: P6 and P9, an order that creates: what it costs, who is paid, what it tells.
func TestFounds(t *testing.T) {
	given := push(7) + telling()
	code := push(9) + telling() + givesText(given)
	inside := 3 + tellGas + rememberGas(len(given)) + 6 + 200*len(given)
	w := cast(t, "")
	o := founds(code, inside+100)
	o.Value, o.Price = of(6), 3
	r := does(t, w, o)
	if !r.Good || r.Gas != foundsAtOnce(code)+inside || r.Created != 1000000 || r.Out != "" || len(r.Logs) != 1 || r.Logs[0] != (api.Log{Account: 1000000, Topic: of(9)}) {
		t.Errorf("P6: %+v, want %d gas", r, foundsAtOnce(code)+inside)
	}
	has(t, "an order that creates", w, sender, riches-6-3*r.Gas, miner, 3*r.Gas, 1000000, 6, 0, -1)
	if a, b := find(w, sender).Nonce, find(w, 1000000); a != 1 || b.Nonce != 0 || b.Code != given {
		t.Errorf("P6: the sender's nonce is %d, created %+v", a, b)
	}
	for gas := range inside {
		if gas%97 == 0 || gas > inside-5 || gas < 5 {
			endsBadly(t, "an order that creates, with too little gas", cast(t, ""), founds(code, gas))
		}
	}
	endsBadly(t, "an order that creates badly", cast(t, ""), founds(push(1, 1)+text(put)+push(5)+telling()+calling(0, 77, 1, 0, 0, 0, 0)+push(0, 0, 1)+text(create, 255), 300000))
	if r := does(t, cast(t, ""), founds("", 0)); !r.Good || r.Gas != 53000 || r.Created != 1000000 {
		t.Errorf("P6: an order that creates with no code: %+v", r)
	}
	// what the frame gives is the code, and Data are not the data
	r = does(t, cast(t, ""), founds(text(size)+telling()+push(3)+text(arg)+telling(), 10000))
	tells(t, "no data", r, 0, 0)
}

// TestCreatedTwoWorlds: P2, a code that was created shares nothing with what was handed in, and worlds are apart.
func TestCreatedTwoWorlds(t *testing.T) {
	one, two := cast(t, ""), cast(t, "")
	does(t, one, founds(givesText("\x01"), 10000))
	if len(two.Accounts()) != 2 || len(one.Accounts()) != 4 {
		t.Errorf("P2: %v and %v", one.Accounts(), two.Accounts())
	}
	list := one.Accounts()
	spoil(list)
	if a := find(one, 1000000); a.Code != "\x01" {
		t.Errorf("P2: an answer was written into, and the world has %+v", a)
	}
}

// TestHighNonce: P5 and P6, creations raise a nonce beyond the last one from which orders may come.
func TestHighNonce(t *testing.T) {
	w := world(t, api.Account{ID: sender, Balance: of(riches)}, api.Account{ID: target, Nonce: 1<<62 - 1, Code: push(0, 0, 0) + text(create)})
	for n := range 3 {
		o := ask(100000)
		o.Nonce = n
		does(t, w, o)
		if got := find(w, target).Nonce; got != 1<<62+n {
			t.Errorf("P6: the nonce is %d, want 2^62 and %d", got, n)
		}
		refuses(t, "a high nonce", w, api.Order{From: target, To: target, Nonce: 1<<62 + n, Gas: atOnce, Miner: miner}, api.BadNonce)
	}
}
