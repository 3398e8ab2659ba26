package purser_test

import (
	"strings"
	"testing"

	"purser/api"
)

// TestCallNeeds: P6, each price of Call, with just the gas for it and one less; what is handed on comes back.
func TestCallNeeds(t *testing.T) {
	for name, c := range map[string]struct {
		g, to, v, a, b, c, d uint64
		price, gift          int
	}{
		"no code":                        {to: other, price: 40},
		"some gas":                       {to: other, g: 5000, price: 40},
		"a value":                        {to: other, v: 1, price: 9040, gift: 2300},
		"a value and some gas":           {to: other, v: 50, g: 700, price: 9040, gift: 2300},
		"what is not there":              {to: 77, price: 25040},
		"what is not there, and gas":     {to: 77, g: 9, price: 25040},
		"what is not there, and a value": {to: 77, v: 3, price: 34040, gift: 2300},
		"the sender":                     {to: sender, price: 40},
		"the account 0":                  {to: 0, price: 25040},
		"the greatest ID":                {to: 1<<32 - 1, price: 25040},
		"a created one's ID":             {to: 1000000, price: 25040},
		"a byte":                         {to: other, b: 1, price: 40 + 3},
		"two bytes over the edge":        {to: other, a: 31, b: 2, price: 40 + 6},
		"a byte taken":                   {to: other, d: 1, price: 40 + 3},
		"two bytes taken over the edge":  {to: other, c: 31, d: 2, price: 40 + 6},
		"the second stretch farther":     {to: other, a: 10, b: 20, c: 90, d: 7, price: 40 + 12},
		"the first stretch farther":      {to: other, a: 90, b: 7, c: 10, d: 20, price: 40 + 12},
		"both as far":                    {to: other, a: 90, b: 7, c: 96, d: 1, price: 40 + 12},
		"a long first stretch":           {to: other, b: 32 * 724, d: 9, g: 8, price: 40 + 2172 + 1023},
		"a long second stretch":          {to: other, b: 9, d: 32 * 724, g: 8, price: 40 + 2172 + 1023},
		"all of it":                      {to: 77, v: 50, g: 8, a: 31, b: 2, c: 63, d: 2, price: 40 + 9000 + 25000 + 9, gift: 2300},
	} {
		code := calling(c.g, c.to, c.v, c.a, c.b, c.c, c.d)
		needs(t, "Call of "+name, callWords+c.price+int(c.g), callWords+c.price-c.gift, code, "")
	}
}

// TestFarStretches: P6, a stretch that is too far ends the frame badly, each of the two of Call and Lend; a stretch of no bytes may be anywhere.
func TestFarStretches(t *testing.T) {
	for _, far := range []api.Word{of(1<<32 - 1), of(1 << 32), of(1 << 63), {0, 1}, {0, 0, 0, 1}, greatest, minus(32)} {
		for _, c := range []struct {
			rest  string
			words int
		}{{push(0, other, 0) + text(call), callWords}, {push(other, 0) + text(lend), lendWords}} {
			p := pushWord(far)
			endsBadly(t, "a far first stretch", cast(t, push(0, 0, 1)+p+c.rest, ""), ask(500000))
			endsBadly(t, "a long first stretch", cast(t, push(0, 0)+p+push(1)+c.rest, ""), ask(500000))
			endsBadly(t, "a far second stretch", cast(t, push(1)+p+push(0, 0)+c.rest, ""), ask(500000))
			endsBadly(t, "a long second stretch", cast(t, p+push(1, 0, 0)+c.rest, ""), ask(500000))
			needs(t, "no bytes far away", c.words+40, c.words+40, push(0)+p+push(0)+p+c.rest, "")
		}
	}
}

// TestTooMuchGas: P6, gas that the frame has not got cannot be handed on, and no sum of it wraps round.
func TestTooMuchGas(t *testing.T) {
	for _, g := range []api.Word{of(1 << 32), of(1 << 62), of(1<<63 - 1), of(1 << 63), of(top), of(top - 39), {0, 1}, {0, 0, 1}, {0, 0, 0, 1}, greatest, minus(40), minus(9040), least} {
		endsBadly(t, "Call", cast(t, push(0, 0, 0, 0, 0, other)+pushWord(g)+text(call), ""), ask(900000))
		endsBadly(t, "Call with a value", cast(t, push(0, 0, 0, 0, 1, other)+pushWord(g)+text(call), ""), ask(900000))
		endsBadly(t, "Lend", cast(t, push(0, 0, 0, 0, other)+pushWord(g)+text(lend), ""), ask(900000))
	}
}

// TestCallLays: P6, 1 if what is called ends well, else 0; all its gas is gone then.
func TestCallLays(t *testing.T) {
	for name, c := range map[string]struct {
		code         string
		g            uint64
		laid, inside int
	}{
		"no code":                  {"", 0, 1, 0},
		"a Stop":                   {text(stop, 255), 0, 1, 0},
		"just gas enough":          {push(1), 3, 1, 3},
		"one less":                 {push(1), 2, 0, 2},
		"more gas":                 {push(1), 1000, 1, 3},
		"no instruction":           {push(1) + text(255), 1000, 0, 1000},
		"too few words":            {text(pop), 1000, 0, 1000},
		"no Mark":                  {push(0) + text(jump), 1000, 0, 1000},
		"far memory":               {push(1<<40) + text(load), 1000, 0, 1000},
		"a stack that is too high": {strings.Repeat(text(self), 1025), 5000, 0, 5000},
		"a Return":                 {givesText("x"), 1000, 1, 18},
		"a Destroy":                {push(sender) + text(destroy), 0, 0, 0},
	} {
		w := cast(t, calls(c.g, other)+keeping(0), c.code)
		put := 5003 + 15000*c.laid
		plays(t, name, w, callWords+40+c.inside+put)
		keeps(t, name, w, target, uint64(c.laid))
	}
	w := cast(t, calls(100, 77)+keeping(0)+calls(100, 77)+keeping(1))
	plays(t, "what is not there, twice", w, 2*(callWords+40+20003)+25000)
	keeps(t, "what is not there, twice", w, target, 1, 1)
	has(t, "what is not there, twice", w, 77, 0)
}

// TestGift: P6, 2300 go with a value, on top of what is handed on, and come back with what is left.
func TestGift(t *testing.T) {
	tellsGas := text(gasLeft) + telling()
	for _, c := range []struct{ g, v, sees uint64 }{{1000, 0, 998}, {1000, 1, 3298}, {0, 1, 2298}, {7, 50, 2305}} {
		w := cast(t, calling(c.g, other, c.v, 0, 0, 0, 0), tellsGas)
		taken := callWords + 40 + 2 + tellGas
		if c.v > 0 {
			taken += 9000 - 2300
		}
		r := plays(t, "the gift", w, taken)
		tells(t, "the gift", r, c.sees)
		has(t, "the gift", w, target, 50-int(c.v), other, 50+int(c.v))
	}
	// the gift is lost with what ends badly
	w := cast(t, calling(10, other, 1, 0, 0, 0, 0)+keeping(0), text(255))
	plays(t, "the gift, lost", w, callWords+9040+10+5003)
	has(t, "the gift, lost", w, target, 50, other, 50)
	// it is not enough for a Put
	w = cast(t, calling(0, other, 1, 0, 0, 0, 0)+keeping(0), push(1, 1)+text(put))
	plays(t, "the gift, too little", w, callWords+9040+5003)
	// an order gives none
	r := does(t, cast(t, tellsGas), api.Order{From: sender, To: target, Value: of(5), Gas: atOnce + 1000, Miner: miner})
	tells(t, "an order's gift", r, 998)
}

// TestCallValue: P6, a value that the account just has, and one more, for which no frame begins and the gas comes back.
func TestCallValue(t *testing.T) {
	callee := push(1, 0) + text(put)
	sends := func(v api.Word, to uint64) string {
		return push(0, 0, 0, 0) + pushWord(v) + push(to, 30000) + text(call) + keeping(0)
	}
	paid := callWords + 9040 - 2300
	for _, v := range []uint64{1, 49, 50} {
		w := cast(t, sends(of(v), other), callee)
		plays(t, "no more than it has", w, paid+20006+20003)
		keeps(t, "no more than it has", w, target, 1)
		keeps(t, "no more than it has", w, other, 1)
		has(t, "no more than it has", w, target, 50-int(v), other, 50+int(v))
		w = cast(t, sends(of(v), 77))
		plays(t, "to what is not there", w, paid+25000+20003)
		keeps(t, "to what is not there", w, target, 1)
		has(t, "to what is not there", w, target, 50-int(v), 77, int(v))
	}
	for _, v := range []api.Word{of(51), of(1 << 63), {50, 1}, {1, 0, 0, 1}, greatest} {
		w := cast(t, sends(v, other), callee)
		plays(t, "more than it has", w, paid+5003)
		keeps(t, "more than it has", w, target, 0)
		keeps(t, "more than it has", w, other, 0)
		has(t, "more than it has", w, target, 50, other, 50)
		w = cast(t, sends(v, 77))
		plays(t, "more than it has, to what is not there", w, paid+25000+5003)
		keeps(t, "more than it has, to what is not there", w, target, 0)
		has(t, "more than it has, to what is not there", w, target, 50, 77, -1)
	}
	// what the order sends counts at once
	w := cast(t, calling(0, other, 57, 0, 0, 0, 0), "")
	does(t, w, api.Order{From: sender, To: target, Value: of(7), Gas: 100000, Miner: miner})
	has(t, "with what was sent", w, target, 0, other, 107)
}

// TestCallItself: P6, an account that calls itself has a frame of its own, and one balance and one set of slots.
func TestCallItself(t *testing.T) {
	// called with data: keeps its value, caller, room and what the first frame put; else: puts, calls itself, keeps what was put there
	inner := text(value) + keeping(1) + text(caller) + keeping(2) + text(room) + keeping(3) + push(9) + text(keep) + keeping(4) + push(8, 9) + text(put)
	outer := push(7, 9) + text(put) + push(1, 0) + text(store8) + push(0, 0, 1, 0) + push(30) + text(self) + push(300000) + text(call) + keeping(0) + push(9) + text(keep) + keeping(5) + text(stop)
	code := skipping(text(size), outer) + inner
	w := cast(t, code)
	plays(t, "a call of itself", w, -1)
	keeps(t, "a call of itself", w, target, 1, 30, target, 0, 7, 8)
	has(t, "a call of itself", w, target, 50)
	// more than it has cannot be sent to itself either
	for v, laid := range map[uint64]uint64{50: 1, 51: 0} {
		w := cast(t, skipping(text(size), push(0, 0, 1, 0, v, target, 1000)+text(call)+keeping(0)))
		plays(t, "coins to itself", w, -1)
		keeps(t, "coins to itself", w, target, laid)
		has(t, "coins to itself", w, target, 50)
	}
}

// TestCallSees: P6, what a frame that is called has: its account, the caller, the value, the data; a new stack and memory.
func TestCallSees(t *testing.T) {
	sees := text(self) + telling() + text(caller) + telling() + text(value) + telling() + text(size) + telling() + push(1) + text(arg) + telling() + text(room) + telling() + text(self, balance) + telling() + text(caller, balance) + telling()
	start := pushWord(large256("abcdefghijklmnopqrstuvwxyz012345")) + push(0) + text(store)
	w := cast(t, start+calling(100000, other, 3, 2, 5, 0, 0), sees+calling(50000, other+1, 2, 0, 0, 0, 0), sees)
	r := plays(t, "what a call sees", w, -1)
	arg := large256("defg" + bytesOf(28))[0]
	tells(t, "what a call sees", r, other, target, 3, 5, arg, 0, 53, 47, other+1, other, 2, 0, 0, 0, 52, 51)
	for i, l := range r.Logs {
		if want := other + i/8; l.Account != want {
			t.Errorf("P6: what was told of %d, want of %d", l.Account, want)
		}
	}
	if r.Logs[4].Topic != large256("defg"+bytesOf(28)) {
		t.Errorf("P6: the data from 1 on are %x", r.Logs[4].Topic)
	}
	fails(t, "a stack of its own", push(1, 2, 3)+calls(100, target)+text(pop, pop, pop, pop, pop))
	w = cast(t, push(5)+calls(100, other)+keeping(0)+keeping(1), text(pop))
	plays(t, "the words of the one who called", w, -1)
	keeps(t, "the words of the one who called", w, target, 0, 5)
}

// TestLongData: P6, data of a call may be longer than those of an order.
func TestLongData(t *testing.T) {
	w := cast(t, push('x', 4999)+text(store8)+calling(100000, other, 0, 0, 5000, 0, 0), text(size)+telling()+push(4999)+text(arg)+telling())
	r := plays(t, "long data", w, -1)
	if len(r.Logs) != 2 || r.Logs[0].Topic != of(5000) || r.Logs[1].Topic != large256("x"+bytesOf(31)) {
		t.Errorf("P6: long data: %+v", r.Logs)
	}
}

// TestGaveBack: P6, of what a call or a loan gave, at most d bytes are written, and no more than it gave.
func TestGaveBack(t *testing.T) {
	given := "abcdefghijklmnopqrstuvwxyz0123456789"
	was := strings.Repeat("X", 64)
	for name, c := range map[string]struct {
		code string
		c, d uint64
		want string
	}{
		"just as long":           {givesText(given[:10]), 0, 10, given[:10] + was[10:]},
		"longer":                 {givesText(given[:10]), 0, 4, given[:4] + was[4:]},
		"shorter":                {givesText(given[:4]), 0, 10, given[:4] + was[4:]},
		"one longer":             {givesText(given[:11]), 3, 10, was[:3] + given[:10] + was[13:]},
		"one shorter":            {givesText(given[:9]), 3, 10, was[:3] + given[:9] + was[12:]},
		"none taken":             {givesText(given), 7, 0, was},
		"none given":             {push(0, 0) + text(give), 7, 10, was},
		"a Stop":                 {remembered(given) + text(stop), 7, 10, was},
		"no code":                {"", 7, 10, was},
		"a Destroy":              {remembered(given) + push(0) + text(destroy), 7, 10, was},
		"a bad end":              {remembered(given) + text(255), 7, 10, was},
		"a bad Return":           {remembered(given) + push(1<<40, 0) + text(give), 7, 10, was},
		"over a word's edge":     {givesText(given), 20, 36, was[:20] + given + was[56:]},
		"to the end":             {givesText(given), 28, 36, was[:28] + given},
		"behind the end":         {givesText(given[:3]), 70, 10, was + bytesOf(6) + given[:3] + bytesOf(23)},
		"bytes 0 over others":    {push(5, 0) + text(give), 3, 10, was[:3] + bytesOf(5) + was[8:]},
		"what the data are":      {push(0) + text(arg) + push(0) + text(store) + push(32, 0) + text(give), 1, 3, was[:3] + "\x00" + was[4:]},
		"far away, none of them": {givesText(given), 1 << 40, 0, was},
	} {
		for instruction, words := range map[int]string{call: push(0, other, 50000), lend: push(other, 50000)} {
			code := remembered(was) + push(c.d, c.c, 2, 1) + words + text(instruction, pop) + push(uint64(len(c.want)), 0) + text(give)
			if r := plays(t, name, cast(t, code, c.code), -1); r.Out != c.want {
				t.Errorf("P6: what was given, %s, by %d: %q, want %q", name, instruction, r.Out, c.want)
			}
		}
	}
}

// TestStretchesGrowTheMemory: P6, the memory is as long as both stretches ask, whatever is given, and also where no frame begins.
func TestStretchesGrowTheMemory(t *testing.T) {
	for _, v := range []uint64{0, 51} {
		for _, c := range []struct{ a, b, c, d, room uint64 }{{0, 0, 0, 0, 0}, {5, 1, 0, 0, 32}, {0, 0, 31, 2, 64}, {95, 1, 1, 1, 96}, {1, 1, 95, 2, 128}, {1 << 40, 0, 1 << 50, 0, 0}} {
			r := plays(t, "the room", cast(t, calling(0, other, v, c.a, c.b, c.c, c.d)+text(room)+telling(), ""), -1)
			tells(t, "the room", r, c.room)
		}
	}
}

// TestCallByLowBits: P6, whom a word calls, by its lowest 32 bits.
func TestCallByLowBits(t *testing.T) {
	for _, w := range []api.Word{of(other), of(other + 1<<32), of(other + 1<<63), {other, 1}, {other, 0, 0, 1 << 63}} {
		r := plays(t, "Call", cast(t, push(0, 0, 0, 0, 0)+pushWord(w)+push(1000)+text(call), push(7)+telling()), callWords+40+3+tellGas)
		tells(t, "Call", r, 7)
		r = plays(t, "Lend", cast(t, push(0, 0, 0, 0)+pushWord(w)+push(1000)+text(lend), push(7)+telling()), lendWords+40+3+tellGas)
		tells(t, "Lend", r, 7)
	}
}

// TestAccountZero: P5 and P6, the account 0 comes to be like others, and never sends.
func TestAccountZero(t *testing.T) {
	w := cast(t, calling(0, 0, 9, 0, 0, 0, 0))
	plays(t, "a call of 0", w, callWords+34040-2300)
	has(t, "a call of 0", w, 0, 9, target, 41)
	if id := w.Accounts()[0].ID; id != 0 {
		t.Errorf("P10: the first account is %d, want 0", id)
	}
	refuses(t, "an order of 0", w, api.Order{From: 0, To: target, Gas: 100000, Miner: miner}, api.NoSender)
	plays(t, "a second call of 0", w, callWords+9040-2300)
	has(t, "a second call of 0", w, 0, 18)
}

// TestMarksOfCallee: P6, a frame jumps by the marks of the code that it runs.
func TestMarksOfCallee(t *testing.T) {
	jumps := push(3) + text(jump, mark) + push(7) + telling()
	for name, code := range map[string]string{"Call": calls(1000, other), "Lend": lending(1000, other, 0, 0, 0, 0)} {
		r := plays(t, name, cast(t, code+telling(), jumps), -1)
		tells(t, name, r, 7, 1)
		r = plays(t, name, cast(t, push(3)+text(jump, mark)+code+telling(), push(3)+text(jump, 0)), -1)
		tells(t, name, r, 0)
	}
}
