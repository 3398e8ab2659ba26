package purser_test

import (
	"math/big"
	"math/rand"
	"reflect"
	"testing"

	"purser/api"
	"purser/purser"
)

// drawCode draws a code that mostly has the words that it takes, and sometimes not. It calls none.
func drawCode(r *rand.Rand, pieces int) string {
	code, depth := "", 0
	for n := r.Intn(pieces); n > 0; n-- {
		b := r.Intn(160)
		if r.Intn(100) == 0 {
			b = r.Intn(256)
		}
		takes := takesOf(b)
		if takes < 0 && r.Intn(30) > 0 || takes > depth && r.Intn(50) > 0 || b == stop && r.Intn(20) > 0 || b == give && r.Intn(10) > 0 || b >= 60 && b <= 64 && b != give {
			b, takes = push1+r.Intn(2), 0
		}
		switch {
		case (b == jump || b == jumpIf) && depth >= takes && r.Intn(8) > 0:
			code += text(push1+1, (len(code)+4)/256, (len(code)+4)%256, b, mark)
			depth += 1 - takes
			continue
		case b == load || b == store || b == store8 || b == tell || b == give:
			code += push(uint64(r.Intn(90)), uint64(r.Intn(200)))
			depth += 2
		}
		code += text(b)
		switch {
		case b >= push1 && b <= push32:
			w := inBytes(draw(r))
			code += w[32-(b-95):]
			depth++
		case b >= 96 && b <= 143 || b <= 32 && takes == 0:
			depth++
		case b <= 32 || b == load || b == keep:
			depth += 1 - max(takes, 0)
		case b < 96:
			depth -= max(takes, 0)
		}
	}
	return code[:min(len(code), 2000)]
}

// pick is one of some numbers.
func pick(r *rand.Rand, list ...uint64) uint64 { return list[r.Intn(len(list))] }

// drawID draws an account that is there, comes to be on the way, or is not.
func drawID(r *rand.Rand) uint64 {
	return pick(r, 0, 1, 2, 2, 4, 5, 5, 6, 6, 7, 7, 77, 1000000, 1000001, 1000002, 1000003, 1000007, 4294967295)
}

// drawStretch lays a stretch of the memory on.
func drawStretch(r *rand.Rand) string {
	return push(pick(r, 0, 1, 5, 31, 32, 33, 64), pick(r, 0, 0, 1, 20, 32, 50, 100))
}

// drawGas lays on the gas that a call hands on: some, or all but some of what there is.
func drawGas(r *rand.Rand) string {
	if r.Intn(2) == 0 {
		return push(pick(r, 0, 1, 700, 2300, 6000, 30000, 60000, 100000, 2000000))
	}
	return push(pick(r, 60, 10000, 40000, 100000)) + text(gasLeft, sub)
}

// drawUse does something with what was laid on: keeps it, tells it, or takes it off.
func drawUse(r *rand.Rand) string {
	switch r.Intn(4) {
	case 0:
		return push(uint64(r.Intn(3))) + text(put)
	case 1:
		return push(0, 0) + text(tell)
	}
	return text(pop)
}

// drawCreation draws what creates, by a code that is drawn too, and mostly calls what was created.
func drawCreation(r *rand.Rand, nested int) string {
	code := drawMaker(r, nested)
	made := remembered(code) + push(uint64(len(code)), 0, pick(r, 0, 0, 1, 3, 100)) + text(create)
	if r.Intn(3) > 0 {
		made += drawStretch(r) + drawStretch(r) + push(pick(r, 0, 0, 2)) + text(dup1+5) + push(pick(r, 1000, 40000)) + text(call) + drawUse(r)
	}
	return made + drawUse(r)
}

// drawMaker draws a code that gives a code, which is mostly a play too.
func drawMaker(r *rand.Rand, nested int) string {
	code := drawPlay(r, 3, nested-1)
	if nested <= 1 {
		code = drawPlay(r, 3, 0)
	}
	return drawPlay(r, 2, nested-1) + remembered(code) + push(uint64(len(code)-r.Intn(2)*r.Intn(len(code)+1)), 0) + text(give)
}

// drawPlay draws a code of scenes that call, lend, create, put, tell and end.
func drawPlay(r *rand.Rand, scenes, nested int) string {
	code := ""
	for n := r.Intn(scenes + 1); n > 0; n-- {
		switch scene := r.Intn(40); {
		case scene < 9:
			code += drawStretch(r) + drawStretch(r) + push(pick(r, 0, 0, 0, 1, 7, 60, 1<<40), drawID(r)) + drawGas(r) + text(call) + drawUse(r)
		case scene < 15:
			code += drawStretch(r) + drawStretch(r) + push(drawID(r)) + drawGas(r) + text(lend) + drawUse(r)
		case scene < 20 && nested > 0:
			code += drawCreation(r, nested)
		case scene < 27:
			code += push(uint64(r.Intn(2)*r.Intn(9)), uint64(r.Intn(3))) + text(put)
		case scene < 31:
			code += push(uint64(r.Intn(9))) + drawStretch(r) + text(tell)
		case scene < 33:
			code += text([]int{self, caller, value, size, gasLeft, room}[r.Intn(6)]) + drawUse(r)
		case scene < 35:
			code += push(drawID(r)) + text(balance) + drawUse(r)
		case scene < 36:
			code += pushWord(draw(r)) + push(pick(r, 0, 32, 40)) + text(store)
		case scene < 37:
			code += drawStretch(r) + text(give)
		case scene < 38:
			code += push(drawID(r)) + text(destroy)
		case scene < 39:
			code += text(255)
		default:
			code += drawCode(r, 12)
		}
	}
	return code
}

// drawWorld draws accounts with plays, two of which have coins enough to send.
func drawWorld(r *rand.Rand) []api.Account {
	list := []api.Account{{ID: 1, Balance: of(riches)}, {ID: 4, Balance: of(riches), Nonce: 3, Code: drawPlay(r, 3, 1)}}
	for _, id := range []int{2, 5, 6, 7} {
		code := drawPlay(r, 9, 2)
		list = append(list, api.Account{ID: id, Balance: of(uint64(r.Intn(90))), Nonce: r.Intn(2), Code: code[:min(len(code), 2000)], Slots: slots(r.Intn(4), of(6))})
	}
	return list
}

// drawOrder draws an order that may be done, to what there may be.
func drawOrder(r *rand.Rand) api.Order {
	o := api.Order{From: int(pick(r, 1, 1, 1, 4, 1000000)), To: int(pick(r, 0, 2, 2, 2, 5, 6, 7, 4, 1, 77, 1000000, 1000001)), Value: of(pick(r, 0, 1, 100)), Price: r.Intn(3), Gas: int(pick(r, 60000, 100000, 200000, 400000, 1000000)), Miner: int(pick(r, 3, 1, 2, 5, 1000000, 99))}
	if o.To == 0 {
		code := drawMaker(r, 2)
		o.Data = code[:min(len(code), 2000)]
	} else {
		o.Data = bytesOf(r.Intn(40))
	}
	return o
}

func sumOf(list []api.Account) *big.Int {
	sum := new(big.Int)
	for _, a := range list {
		sum.Add(sum, large(a.Balance))
	}
	return sum
}

// compares has a world and the model do an order, and tells what came of it and how many coins went.
func compares(t *testing.T, w *purser.World, m *modelWorld, o api.Order) (api.Result, *big.Int) {
	t.Helper()
	before := w.Accounts()
	got := does(t, w, o)
	want, gone := m.does(o)
	if len(got.Logs)+len(want.Logs) == 0 {
		got.Logs, want.Logs = nil, nil
	}
	after, told := plain(w.Accounts()), m.told()
	if !reflect.DeepEqual(got, want) || !reflect.DeepEqual(after, told) {
		t.Fatalf("P6: %+v\nin a world of %+v\ncame to %+v,\nwant %+v;\naccounts %+v,\nwant %+v", o, before, got, want, after, told)
	}
	if sum := new(big.Int).Add(sumOf(after), gone); sum.Cmp(sumOf(before)) != 0 {
		t.Fatalf("P8: %+v: all balances together were %v, they are %v, and %v went", o, sumOf(before), sumOf(after), gone)
	}
	if got.Gas > o.Gas || 2*got.Gas < atOnce || o.To == 0 && 2*got.Gas < atOnce+32000 {
		t.Fatalf("P9: %+v takes %d", o, got.Gas)
	}
	return got, gone
}

// TestModel: P6, P7 and P9 of drawn codes that call none, each world doing several orders.
func TestModel(t *testing.T) {
	r := rand.New(rand.NewSource(1))
	good := 0
	for range 4000 {
		list := []api.Account{{ID: sender, Balance: api.Word{0, r.Uint64(), 0, r.Uint64() >> 1}}, {ID: target, Balance: of(r.Uint64()), Code: drawCode(r, 150), Slots: slots(r.Intn(5), of(6))}}
		w, m := world(t, list...), modelOf(list)
		for nonce := range 3 {
			data := make([]byte, r.Intn(50))
			for i := range data {
				data[i] = byte(r.Intn(256) * r.Intn(2))
			}
			o := api.Order{From: sender, To: target, Nonce: nonce, Value: of(r.Uint64()), Price: r.Intn(3), Gas: 26000 + r.Intn(1+r.Intn(200000)), Data: string(data), Miner: 1 + r.Intn(3)}
			if got, _ := compares(t, w, m, o); got.Good {
				good++
			}
		}
	}
	if good < 2000 || good > 10000 {
		t.Errorf("%d of 12000 orders end well: the codes that are drawn are too tame or too wild", good)
	}
}

// TestModelOfMany: P6 to P9 of drawn worlds whose accounts call, lend, create and destroy, each world doing several orders.
func TestModelOfMany(t *testing.T) {
	r := rand.New(rand.NewSource(3))
	seen := map[string]int{}
	for range 5000 {
		list := drawWorld(r)
		w, m := world(t, list...), modelOf(list)
		for range 5 {
			o := drawOrder(r)
			from, is := m.accounts[o.From]
			if o.Nonce = from.nonce; !is || from.balance.Cmp(big.NewInt(1<<40)) < 0 && o.Price+int(o.Value[0]) > 0 {
				continue
			}
			if _, err := w.Do(api.Order{From: o.From, To: o.To, Nonce: o.Nonce, Gas: 20000, Miner: 1}); err == nil {
				t.Fatal("P5: an order with too little gas is done")
			}
			if cost := 53000 + 68*len(o.Data); o.Gas < cost {
				o.Gas = cost
			}
			got, gone := compares(t, w, m, o)
			count(seen, got, gone, m)
		}
	}
	for what, least := range map[string]int{"good": 7000, "bad": 2500, "creating": 600, "telling": 1500, "destroying": 350, "burning": 60, "giving back": 800, "sent by what was created": 300} {
		if seen[what] < least {
			t.Errorf("only %d orders %s, want %d: the worlds that are drawn are too tame", seen[what], what, least)
		}
	}
}

// count counts what the orders of drawn worlds come to.
func count(seen map[string]int, got api.Result, gone *big.Int, m *modelWorld) {
	for what, is := range map[string]bool{
		"good":                     got.Good,
		"bad":                      !got.Good,
		"creating":                 got.Created != 0,
		"telling":                  len(got.Logs) > 0,
		"destroying":               len(m.doomed) > 0,
		"burning":                  gone.Sign() > 0,
		"giving back":              m.back > 0,
		"sent by what was created": m.at(1000000).nonce > 0,
	} {
		if is {
			seen[what]++
		}
	}
}

// TestAnyOrder: P1, no order makes a call panic or never end, whatever its numbers are.
func TestAnyOrder(t *testing.T) {
	r := rand.New(rand.NewSource(2))
	numbers := []int{-1 << 63, -1, 0, 1, 2, 3, 20999, 21000, 53000, 1000000, 1000001, 1<<32 - 1, 1 << 32, 1 << 62, 1<<63 - 1}
	any := func() int { return numbers[r.Intn(len(numbers))] }
	for n := range 3000 {
		code := make([]byte, r.Intn(300))
		r.Read(code)
		if n%2 == 0 {
			code = []byte(wildCalls(r))
		}
		w, err := purser.New([]api.Account{{ID: 1, Balance: draw(r)}, {ID: 2, Code: string(code)}})
		if err != nil {
			t.Fatal(err)
		}
		for range 10 {
			o := api.Order{From: 1, To: 2, Gas: 1000000, Miner: 1, Value: draw(r), Data: string(code), Nonce: find(w, 1).Nonce}
			for _, p := range []*int{&o.From, &o.To, &o.Nonce, &o.Gas, &o.Price, &o.Miner} {
				if r.Intn(6) == 0 {
					*p = any()
				}
			}
			w.Do(o)
		}
	}
}

// wildCalls is calls, loans, creations and destructions with any words.
func wildCalls(r *rand.Rand) string {
	code := ""
	for range 1 + r.Intn(6) {
		for range 7 {
			if r.Intn(3) == 0 {
				code += pushWord(draw(r))
			} else {
				code += push(pick(r, 0, 0, 1, 2, 32, 1000, 100000, 1<<32-1, 1<<32, 1<<63))
			}
		}
		code += text(int(pick(r, create, call, lend, call, lend, destroy)))
	}
	return code
}
