package purser_test

import (
	"reflect"
	"slices"
	"testing"

	"purser/api"
	"purser/purser"
)

// busy is a code that puts, puts over, clears, tells and writes into the memory.
func busy() string {
	return push(9, 0) + text(put) + push(8, 1) + text(put) + push(0, 2) + text(put) + push(0, 2) + text(put) +
		push(3, 2) + text(put) + push(0, 1) + text(put) + push(7, 2, 30) + text(tell) + pushWord(greatest) + push(5) + text(store)
}

// busySlots is what busy finds.
func busySlots() []api.Slot {
	return []api.Slot{{Key: of(1), Value: of(1)}, {Key: of(2), Value: of(2)}, {Key: of(3), Value: of(3)}}
}

// TestUndone: P7, each way of ending badly leaves behind nothing but the gas.
func TestUndone(t *testing.T) {
	for name, end := range map[string]string{
		"no instruction":   text(255),
		"too few words":    text(add),
		"too many words":   text(mark, self, push1+1, 0, 83, jump),
		"not gas enough":   push(1) + pushWord(greatest) + text(exp) + push(1<<31) + text(load),
		"no Mark":          push(0) + text(jump),
		"a loop":           text(mark, push1+1, 0, len(busy()), jump),
		"far memory":       push(1, 1<<40) + text(store),
		"put and no Mark":  push(4, 4) + text(put) + push(1, 0) + text(jumpIf),
		"a long Log":       push(1<<30, 1<<30, 0) + text(tell),
		"a long Return":    push(1<<30, 0) + text(give),
		"a Return without": push(1) + text(give),
	} {
		fails(t, name, busy()+end, busySlots()...)
	}
	w := stage(t, busy(), busySlots()...)
	if r := does(t, w, ask(100000)); !r.Good || len(r.Logs) != 1 || kept(w, target, of(0)) != of(9) || kept(w, target, of(1)) != of(0) || kept(w, target, of(2)) != of(3) {
		t.Errorf("P6: what is undone there is done here: %+v, %v", r, w.Accounts())
	}
}

// TestUndoneAnywhere: P7, with each amount of gas that is not enough.
func TestUndoneAnywhere(t *testing.T) {
	code := push(9, 5) + text(put) + push(4, 3) + text(put) + push(7, 2, 30) + text(tell)
	for gas := 0; gas < 25012+9+375+16+3; gas += 1 + gas%7 {
		failsWith(t, "some gas", code, gas, busySlots()...)
	}
	failsWith(t, "one less", code, 25012+9+375+16+3-1, busySlots()...)
	costs(t, "enough", code, 25012+9+375+16+3, busySlots()...)
}

// TestAfterwards: P7, an order behind one that ended badly finds all as it was.
func TestAfterwards(t *testing.T) {
	// clears the slot 1, tells, and jumps to what the data say
	code := push(0, 1) + text(put) + push(7, 0, 0) + text(tell) + push(0) + text(arg, jump, mark)
	last := of(uint64(len(code) - 1))
	w := stage(t, code, busySlots()...)
	for n := range 4 {
		o := ask(60000)
		o.Nonce = n
		o.Data = inBytes(of(uint64(n)))
		if r := does(t, w, o); r.Good || r.Gas != o.Gas || len(r.Logs) != 0 || kept(w, target, of(1)) != of(1) {
			t.Errorf("P7: order %d: %+v, %v", n, r, w.Accounts())
		}
	}
	o := ask(60000)
	o.Nonce, o.Data = 4, inBytes(last)
	taken := atOnce + 31*4 + 68 + 5006 + 9 + 375 + 3 + 3 + 8 + 1
	r := does(t, w, o)
	if !r.Good || r.Gas != taken-taken/2 || len(r.Logs) != 1 || kept(w, target, of(1)) != of(0) {
		t.Errorf("P6: behind bad ends: %+v, want %d gas", r, taken-taken/2)
	}
}

// TestDoAnswersAreNew: P2, logs are the caller's, their spare room too.
func TestDoAnswersAreNew(t *testing.T) {
	code := push(7, 2, 0) + text(tell) + push(8, 0, 0) + text(tell) + push(9, 0, 0) + text(tell)
	w := stage(t, code)
	o := ask(10000)
	first := does(t, w, o)
	want := slices.Clone(first.Logs)
	o.Nonce = 1
	second := does(t, w, o)
	for i := range first.Logs[:cap(first.Logs)] {
		first.Logs[:cap(first.Logs)][i] = api.Log{Account: 55, Topic: of(55), Data: "55"}
	}
	o.Nonce = 2
	third := does(t, w, o)
	for _, r := range []api.Result{second, third} {
		if !reflect.DeepEqual(r.Logs, want) {
			t.Errorf("P2: logs %v, want %v", r.Logs, want)
		}
	}
}

// TestDoWorldsApart: P2, what one world does touches no other, made of the same list, which is not written into.
func TestDoWorldsApart(t *testing.T) {
	list := []api.Account{{ID: sender, Balance: of(riches)}, {ID: target, Code: busy(), Slots: busySlots()}}
	before := copied(list)
	one, two := world(t, list...), world(t, list...)
	untouched := two.Accounts()
	answer := one.Accounts()
	answerBefore := copied(answer)
	does(t, one, ask(100000))
	if !reflect.DeepEqual(copied(list), before) {
		t.Errorf("P2: the list %v is now %v", before, list)
	}
	if got := two.Accounts(); !reflect.DeepEqual(got, untouched) {
		t.Errorf("P2: another world had %v, it has %v", untouched, got)
	}
	if !reflect.DeepEqual(copied(answer), answerBefore) {
		t.Errorf("P2: an answer was %v, it is %v", answerBefore, answer)
	}
	var worlds []*purser.World
	for range 2 {
		worlds = append(worlds, stage(t, busy(), busySlots()...))
	}
	if a, b := does(t, worlds[0], ask(100000)), does(t, worlds[1], ask(100000)); !reflect.DeepEqual(a, b) {
		t.Errorf("P2: one order of two worlds: %+v and %+v", a, b)
	}
}
