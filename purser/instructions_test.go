package purser_test

import (
	"strconv"
	"strings"
	"testing"

	"purser/api"
)

// TestExamples: P6, the second and the third of the document's examples.
func TestExamples(t *testing.T) {
	for _, c := range []struct {
		gas, takes int
		good       bool
		keeps      api.Word
	}{
		{60000, 41012, true, of(12)},
		{40000, 40000, false, of(0)},
	} {
		w := world(t, api.Account{ID: 1, Balance: of(1000000)}, api.Account{ID: 2, Code: "\x60\x05\x60\x07\x01\x60\x00\x2d\x00"})
		r := does(t, w, api.Order{From: 1, To: 2, Gas: c.gas, Price: 1, Miner: 9})
		if r.Good != c.good || r.Gas != c.takes || kept(w, 2, of(0)) != c.keeps || find(w, 9).Balance != of(uint64(c.takes)) {
			t.Errorf("P6: with %d gas: %+v, %v", c.gas, r, w.Accounts())
		}
	}
}

// TestWorkInstructions: P6, each op takes the topmost word first, and costs what the table says.
func TestWorkInstructions(t *testing.T) {
	a, b, c := of(7), of(2), of(5)
	for op, gas := range map[int]int{
		add: 3, sub: 3, mul: 5, div: 5, mod: 5, sdiv: 5, smod: 5, addMod: 8, mulMod: 8, exp: 20, extend: 5,
		less: 3, greater: 3, sless: 3, sgreater: 3, equal: 3, zero: 3, and: 3, or: 3, xor: 3, not: 3, byteOf: 3,
	} {
		words, pushes := 2, pushWord(b)+pushWord(a)
		switch op {
		case zero, not:
			words, pushes = 1, pushWord(a)
		case addMod, mulMod:
			words, pushes = 3, pushWord(c)+pushWord(b)+pushWord(a)
		}
		lays(t, "op "+strconv.Itoa(op), pushes+text(op), 3*words+gas, expected(byte(op), a, b, c))
		fails(t, "too few words for it", strings.Repeat(push(1), words-1)+text(op))
	}
}

// TestExpGas: P6, Exp costs 10 for each byte that b has.
func TestExpGas(t *testing.T) {
	for _, c := range []struct {
		b   api.Word
		gas int
	}{
		{of(0), 10}, {of(1), 20}, {of(255), 20}, {of(256), 30}, {of(1 << 56), 90}, {api.Word{0, 1}, 100},
		{api.Word{0, 0, 0, 1 << 55}, 10 + 310}, {api.Word{0, 0, 0, 1 << 56}, 10 + 320}, {greatest, 10 + 320},
	} {
		lays(t, "Exp", pushWord(c.b)+pushWord(of(3))+text(exp), 6+c.gas, expected(exp, of(3), c.b, of(0)))
	}
}

// TestFrameInstructions: P6, what asks a frame.
func TestFrameInstructions(t *testing.T) {
	lays(t, "Self", text(self), 2, of(target))
	lays(t, "Caller", text(caller), 2, of(sender))
	lays(t, "Value of none", text(value), 2, of(0))
	lays(t, "Balance of another", push(sender)+text(balance), 23, of(riches))
	lays(t, "Balance of itself", text(self, balance), 22, of(50))
	lays(t, "Balance of what is not", push(99)+text(balance), 23, of(0))
	lays(t, "Balance of 0", push(0)+text(balance), 23, of(0))
	lays(t, "Balance by the lowest 32 bits", pushWord(api.Word{target + 5<<32, 6, 7, 8})+text(balance), 23, of(50))
	lays(t, "Balance of 2^32", push(1<<32)+text(balance), 23, of(0))
	lays(t, "Size of none", text(size), 2, of(0))
	lays(t, "Place at first", text(place), 2, of(0))
	lays(t, "Place behind a Push", push(1<<16)+text(mark, place), 6, of(5))
	lays(t, "Place behind a jump", push(5)+text(jump, 255, 255, mark, place), 3+8+1+2, of(6))
	lays(t, "Room at first", text(room), 2, of(0))
	fails(t, "Balance of no word", text(balance))
	fails(t, "Arg of no word", text(arg))
}

// TestBalanceOnTheWay: P6, the gas is paid for and the value has gone over when the frame begins.
func TestBalanceOnTheWay(t *testing.T) {
	w := stage(t, push(sender)+text(balance)+push(1)+text(put, self, balance)+push(2)+text(put, value)+push(3)+text(put))
	o := ask(100000)
	o.Price, o.Value = 2, of(5)
	does(t, w, o)
	for key, want := range []uint64{0, riches - 2*121000 - 5, 55, 5} {
		if got := kept(w, target, of(uint64(key))); got != of(want) {
			t.Errorf("P6: keeps %v under %d, want %d", got, key, want)
		}
	}
}

// TestGreatValue: P6, a value may be any word.
func TestGreatValue(t *testing.T) {
	w := world(t, api.Account{ID: sender, Balance: greatest}, api.Account{ID: target, Code: text(value) + push(0) + text(put)})
	o := ask(30000)
	o.Value = greatest
	if r := does(t, w, o); !r.Good || kept(w, target, of(0)) != greatest || find(w, target).Balance != greatest || find(w, sender).Balance != of(0) {
		t.Errorf("P6: %+v, %v", r, w.Accounts())
	}
}

// TestGasLeft: P6, Gas lays on what is left behind it.
func TestGasLeft(t *testing.T) {
	for _, more := range []int{0, 1, 7777} {
		w := stage(t, text(mark, gasLeft)+push(0)+text(put))
		r := does(t, w, ask(20006+more))
		if got := kept(w, target, of(0)); !r.Good || got != of(uint64(20003+more)) {
			t.Errorf("P6: Gas with %d more: %+v, %v", more, r, got)
		}
	}
	r := does(t, stage(t, text(gasLeft)), ask(2))
	if !r.Good || r.Gas != atOnce+2 {
		t.Errorf("P6: Gas with none left: %+v", r)
	}
}

// TestData: P6, Size and Arg, at and behind the data's end.
func TestData(t *testing.T) {
	long := ""
	for i := range 40 {
		long += text(i + 1)
	}
	for _, c := range []struct {
		name, data string
		a          api.Word
		want       string
	}{
		{"the first byte on", long, of(0), long[:32]},
		{"in the midst", long, of(5), long[5:37]},
		{"just to the end", long, of(8), long[8:]},
		{"one over the end", long, of(9), long[9:] + bytesOf(1)},
		{"the last byte", long, of(39), long[39:] + bytesOf(31)},
		{"at the end", long, of(40), bytesOf(32)},
		{"behind the end", long, of(41), bytesOf(32)},
		{"of no data", "", of(0), bytesOf(32)},
		{"at 2^32", long, of(1 << 32), bytesOf(32)},
		{"at 2^63", long, of(1 << 63), bytesOf(32)},
		{"at 2^64 - 1", long, of(top), bytesOf(32)},
		{"at 2^64", long, api.Word{0, 1}, bytesOf(32)},
		{"at the greatest", long, greatest, bytesOf(32)},
		{"bytes above 127", "\xff\x80\xc3", of(1), "\x80\xc3" + bytesOf(30)},
	} {
		code := pushWord(c.a) + text(arg) + push(0) + text(put)
		gas := 3 + 3 + 3 + 20000
		if c.want == bytesOf(32) {
			gas -= 15000
		}
		w := stage(t, code)
		o := ask(gas + 68*len(c.data))
		o.Data = c.data
		r := does(t, w, o)
		if got := inBytes(kept(w, target, of(0))); !r.Good || r.Gas != o.Gas || got != c.want {
			t.Errorf("P6: Arg %s: %+v, %x, want %x", c.name, r, got, c.want)
		}
	}
	for _, n := range []int{0, 1, 31, 32, 33, 2000} {
		want := 5005
		if n > 0 {
			want = 20005
		}
		gives(t, "Size", text(size)+push(0)+text(put), want, bytesOf(n), of(uint64(n)))
	}
}

// TestStackInstructions: P6, Pop, each Push, Dup and Swap.
func TestStackInstructions(t *testing.T) {
	lays(t, "Pop", push(9, 8)+text(pop), 8, of(9))
	fails(t, "Pop of nothing", text(pop))
	rising := ""
	for i := range 32 {
		rising += text(i + 1)
	}
	for n := 1; n <= 32; n++ {
		lays(t, "Push", text(push1+n-1, rising[:n]), 3, large256(rising[:n]))
	}
	high := strings.Repeat("\xff", 32)
	lays(t, "Push of the greatest", text(push32, high), 3, greatest)
	for n := 1; n <= 16; n++ {
		pushes := ""
		for i := n; i >= 1; i-- {
			pushes += push(uint64(i + 20))
		}
		lays(t, "Dup", pushes+text(dup1+n-1), 3*n+3, of(uint64(n+20)))
		lays(t, "what a Dup leaves", pushes+text(dup1+n-1, pop), 3*n+5, of(21))
		fails(t, "Dup of one too few", pushes[2:]+text(dup1+n-1))
		lays(t, "Swap", push(77)+pushes+text(swap1+n-1), 3*n+6, of(77))
		fails(t, "Swap of one too few", pushes+text(swap1+n-1))
	}
	// what a Swap brings down: all that lies above is taken off
	for n := 1; n <= 16; n++ {
		code := push(77) + strings.Repeat(push(5), n-1) + push(6) + text(swap1+n-1) + strings.Repeat(text(pop), n)
		lays(t, "what a Swap brings down", code, 3*(n+1)+3+2*n, of(6))
	}
}

// large256 is the number of at most 32 bytes.
func large256(list string) api.Word {
	var w api.Word
	for i := range len(list) {
		place := len(list) - 1 - i
		w[place/8] += uint64(list[i]) << (8 * (place % 8))
	}
	return w
}

// TestPushOverTheEnd: P6, a Push that the code's end cuts off costs as any, and the frame is done behind it.
func TestPushOverTheEnd(t *testing.T) {
	for n := 1; n <= 32; n++ {
		for have := range n {
			r := costs(t, "Push over the end", text(push1+n-1, strings.Repeat("\x30", have)), 3)
			if r.Out != "" {
				t.Errorf("P6: a Push over the end gives %q", r.Out)
			}
		}
	}
}

// TestStackLimit: P6, 1024 words and one more.
func TestStackLimit(t *testing.T) {
	full := strings.Repeat(text(self), 1024)
	costs(t, "1024 words", full, 2048)
	for name, c := range map[string]struct {
		code string
		gas  int
	}{
		"Add":     {text(add), 3},
		"Balance": {text(balance), 20},
		"Keep":    {text(keep), 50},
		"Load":    {text(load), 3 + 6},
		"Swap":    {text(swap1), 3},
		"Swap 16": {text(swap1 + 15), 3},
		"Mark":    {text(mark), 1},
		"Pop":     {text(pop) + push(1), 5},
	} {
		costs(t, "1024 words and "+name, full+c.code, 2048+c.gas)
	}
	for name, c := range map[string]struct {
		code string
		gas  int
	}{
		"Self":    {text(self), 2},
		"Caller":  {text(caller), 2},
		"Value":   {text(value), 2},
		"Size":    {text(size), 2},
		"Gas":     {text(gasLeft), 2},
		"Place":   {text(place), 2},
		"Room":    {text(room), 2},
		"Push 1":  {push(1), 3},
		"Push 32": {pushWord(of(1)), 3},
		"Dup 1":   {text(dup1), 3},
		"Dup 16":  {text(dup1 + 15), 3},
	} {
		fails(t, "1024 words and "+name, full+c.code)
		costs(t, "1023 words and "+name, full[1:]+c.code, 2046+c.gas)
	}
}

// TestJumps: P6, to a Mark, and to what is none.
func TestJumps(t *testing.T) {
	lays(t, "Jump", push(4)+text(jump, 255, mark)+push(4), 3+8+1+3, of(4))
	lays(t, "Jump back", push(9)+text(jump, mark)+push(13)+text(jump, 255, 255, mark)+push(3)+text(jump, mark)+push(4), 3*(3+8+1)+3, of(4))
	lays(t, "JumpIf of 1", push(1, 6)+text(jumpIf, 255, mark)+push(4), 6+10+1+3, of(4))
	lays(t, "JumpIf of the highest bit", pushWord(least)+push(37)+text(jumpIf, 255, mark)+push(4), 6+10+1+3, of(4))
	lays(t, "JumpIf of 0", push(0, 99)+text(jumpIf)+push(4), 6+10+3, of(4))
	lays(t, "JumpIf of 0 to far away", push(0)+pushWord(greatest)+text(jumpIf)+push(4), 6+10+3, of(4))
	lays(t, "Mark", text(mark, mark)+push(4), 1+1+3, of(4))
	lays(t, "a Mark behind a Push", push(5)+text(jump, push1, mark, mark)+push(4), 3+8+1+3, of(4))
	costs(t, "a Mark at the end", push(3)+text(jump, mark), 3+8+1)
	for name, code := range map[string]string{
		"to what is no Mark":        push(0) + text(jump),
		"to itself":                 push(2) + text(jump),
		"to the end":                push(3) + text(jump),
		"behind the end":            push(99) + text(jump, mark),
		"into a Push 1":             push(4) + text(jump, push1, mark),
		"into a Push 32":            push(35) + text(jump, push32, bytesOf(31), mark),
		"into a Push over the end":  push(5) + text(jump, push32, mark, mark),
		"to 2^32 above a Mark":      push(1<<32+7) + text(jump, mark),
		"to 2^64 above a Mark":      pushWord(api.Word{34, 1}) + text(jump, mark),
		"to 2^192 above a Mark":     pushWord(api.Word{34, 0, 0, 1}) + text(jump, mark),
		"to 2^63 above a Mark":      pushWord(of(34+1<<63)) + text(jump, mark),
		"to the greatest":           pushWord(greatest) + text(jump, mark),
		"if, to what is no Mark":    push(1, 0) + text(jumpIf),
		"if, into a Push":           push(1, 6) + text(jumpIf, push1, mark),
		"of no word":                text(jump),
		"if, of one word":           push(1) + text(jumpIf),
		"round and round":           text(mark) + push(0) + text(jump),
		"round, with a word laid":   text(mark, self) + push(0) + text(jump),
		"to a Mark of another code": push(3) + text(jump, mark-1),
	} {
		fails(t, "a jump "+name, code)
	}
	good := pushWord(of(34)) + text(jump, mark)
	costs(t, "the Mark that those miss", good, 3+8+1)
}

// TestNoInstruction: P6, bytes that are no instruction end the frame badly; so does the stack, if it is too short by one.
func TestNoInstruction(t *testing.T) {
	full := strings.Repeat(push(1), 20)
	for b := range 256 {
		switch {
		case b <= 22, b >= 24 && b <= 32, b >= 40 && b <= 48, b == 50, b >= 60 && b <= 64, b >= 96 && b <= 159:
		default:
			fails(t, "no instruction "+strconv.Itoa(b), full+text(b))
			costs(t, "no instruction behind a Stop", full+text(stop, b), 60)
		}
	}
	takes := map[int]int{balance: 1, arg: 1, pop: 1, load: 1, store: 2, store8: 2, keep: 1, put: 2, jump: 1, jumpIf: 2, tell: 3, create: 3, call: 7, lend: 6, give: 2, destroy: 1}
	for b, n := range takes {
		fails(t, "too few words", strings.Repeat(push(0), n-1)+text(b))
	}
}

// TestEnds: P6, how a frame is done.
func TestEnds(t *testing.T) {
	costs(t, "no code", "", 0)
	costs(t, "Stop", text(stop), 0)
	costs(t, "Stop ahead of what is no instruction", text(stop, 255), 0)
	costs(t, "the end", push(1), 3)
	if r := costs(t, "Return of nothing", push(0, 0)+text(give, 255), 6); r.Out != "" {
		t.Errorf("P6: Return of nothing gives %q", r.Out)
	}
	r := costs(t, "Return", pushWord(large256("abcdefghijklmnopqrstuvwxyz012345"))+push(0)+text(store)+push(5, 2)+text(give), 3*5+3)
	if r.Out != "cdefg" {
		t.Errorf("P6: Return gives %q", r.Out)
	}
	r = costs(t, "Return over the memory's end", push('x', 31)+text(store8)+push(34, 30)+text(give), 3*5+6)
	if r.Out != "\x00x"+bytesOf(32) {
		t.Errorf("P6: Return over the end gives %q", r.Out)
	}
	if r = costs(t, "Stop with memory", push('x', 0)+text(store8, stop), 12); r.Out != "" {
		t.Errorf("P6: Stop gives %q", r.Out)
	}
}
