package purser_test

import (
	"strings"
	"testing"

	"purser/api"
)

// dive is a code that calls or lends itself down to a depth, where it runs a piece. Its data are the depth of the one who called.
func dive(instruction int, bottom uint64, piece string) string {
	depth := push(0) + text(arg) + push(1) + text(add)
	down := push(0, 0, 32, 0)
	if instruction == call {
		down += push(0)
	}
	down += push(target, 1500) + text(gasLeft, sub, instruction, stop)
	return skipping(depth+text(dup1)+push(0)+text(store)+push(bottom)+text(equal), down) + piece
}

// measured tells what a piece lays on, and how much gas it took, beside measureGas.
func measured(piece string) string {
	return text(gasLeft) + piece + telling() + text(gasLeft, swap1, sub) + telling()
}

const measureGas = tellGas + 2

// TestDepth: P6, a frame at depth 64 begins no other: its gas comes back, and nothing is done; one at depth 63 does.
func TestDepth(t *testing.T) {
	for name, c := range map[string]struct {
		piece    string
		gas      int
		to       int
		had, has int // what the account has where no frame is begun, and where one is
		lays     uint64
	}{
		"Call":                           {calls(1000, other), callWords + 40, other, 50, 50, 1},
		"Call with a value":              {calling(300, other, 5, 0, 0, 0, 0), callWords + 9040 - 2300, other, 50, 55, 1},
		"Call of what is not":            {calls(9, 77), callWords + 25040, 77, -1, 0, 1},
		"Call of what is not, and value": {calling(9, 77, 5, 0, 0, 0, 0), callWords + 34040 - 2300, 77, -1, 5, 1},
		"Lend":                           {lending(1000, other, 0, 0, 0, 0), lendWords + 40, other, 50, 50, 1},
		"Create":                         {push(0, 0, 0) + text(create), createWords + 32000, 1000000, -1, 0, 1000000},
		"Create with a value":            {push(0, 0, 3) + text(create), createWords + 32000, 1000000, -1, 3, 1000000},
	} {
		for by, instruction := range map[string]int{"calls": call, "loans": lend} {
			w := cast(t, dive(instruction, 63, measured(c.piece)), "")
			r := plays(t, name, w, -1)
			tells(t, name+" at depth 63 by "+by, r, c.lays, uint64(c.gas+measureGas))
			has(t, name+" at depth 63 by "+by, w, c.to, c.has)
			w = cast(t, dive(instruction, 64, measured(c.piece)), "")
			r = plays(t, name, w, -1)
			tells(t, name+" at depth 64 by "+by, r, 0, uint64(c.gas+measureGas))
			has(t, name+" at depth 64 by "+by, w, target, 50, c.to, c.had)
			if n := find(w, target).Nonce; n != 0 {
				t.Errorf("P6: %s at depth 64 by %s: the nonce is %d", name, by, n)
			}
			r = plays(t, name, cast(t, dive(instruction, 65, measured(c.piece)), ""), -1)
			tells(t, name+" at depth 65 by "+by, r)
		}
	}
}

// TestDepthOfCreations: P6, the frame of a creation is as deep as any, by an instruction and by an order.
func TestDepthOfCreations(t *testing.T) {
	inside := calls(0, other) + telling() + lending(0, other, 0, 0, 0, 0) + telling() + push(0, 0, 0) + text(create) + telling()
	for depth, want := range map[uint64][]uint64{62: {1, 1, 1000001, 1000000}, 63: {0, 0, 0, 1000000}, 64: {0}} {
		w := cast(t, dive(call, depth, creating(0, inside)+telling()), "")
		r := plays(t, "a creation", w, -1)
		tells(t, "a creation", r, want...)
	}
	first := push(1, 0) + text(store) + calling(900000, target, 0, 0, 32, 0, 0) + telling()
	for depth, want := range map[uint64][]uint64{63: {1, 1}, 64: {0, 1}, 65: {1}} {
		w := cast(t, dive(call, depth, calls(0, other)+telling()), "")
		o := ask(api.MaxGas - atOnce)
		o.To, o.Data = 0, first
		tells(t, "an order that creates", does(t, w, o), want...)
	}
	// what was not begun took no ID
	w := cast(t, dive(call, 64, push(0, 0, 0)+text(create))+text(pop), "")
	plays(t, "no ID", w, -1)
	if r := does(t, w, api.Order{From: sender, Nonce: 1, Gas: 60000, Miner: miner}); r.Created != 1000000 {
		t.Errorf("P6: behind a creation that was not begun: %+v", r)
	}
}

// TestSideBySide: P6, calls side by side do not add up to a depth, however they end.
func TestSideBySide(t *testing.T) {
	for name, code := range map[string]string{"well": "", "badly": text(255)} {
		w := cast(t, strings.Repeat(calls(0, other)+text(pop), 70)+strings.Repeat(lending(0, other, 0, 0, 0, 0)+text(pop), 40)+calls(0, other+1)+telling(), code, "")
		r := plays(t, name, w, 70*(callWords+42)+40*(lendWords+42)+callWords+40+tellGas)
		tells(t, "side by side, "+name, r, 1)
	}
}
