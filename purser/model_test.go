package purser_test

import (
	"bytes"
	"math/big"
	"math/rand"
	"reflect"
	"slices"
	"testing"

	"purser/api"
	"purser/purser"
)

// model is a frame as the document tells it, in the plainest way, with numbers of any length.
type model struct {
	code, data  string
	value       api.Word
	balances    map[int]*big.Int
	slots       map[api.Word]api.Word
	stack       []api.Word
	memory      []byte
	gas, back   int
	at          int
	logs        []api.Log
	out         string
	bad, isDone bool
}

// pops takes words off, the topmost first.
func (m *model) pops(n int) []api.Word {
	list := slices.Clone(m.stack[len(m.stack)-n:])
	slices.Reverse(list)
	m.stack = m.stack[:len(m.stack)-n]
	return list
}

func (m *model) lays(w api.Word) { m.stack = append(m.stack, w) }

// pays ends the frame badly if there is not gas enough for an instruction and a stretch of the memory.
func (m *model) pays(cost int, a, n *big.Int) bool {
	total := big.NewInt(int64(cost))
	end := new(big.Int).Add(a, n)
	if n.Sign() > 0 {
		have := big.NewInt(int64(len(m.memory) / 32))
		words := new(big.Int).Add(end, big.NewInt(31))
		words.Rsh(words, 5)
		if words.Cmp(have) > 0 {
			total.Add(total, memoryPrice(words)).Sub(total, memoryPrice(have))
		}
	}
	if total.Cmp(big.NewInt(int64(m.gas))) > 0 {
		m.bad = true
		return false
	}
	m.gas -= int(total.Int64())
	for n.Sign() > 0 && int64(len(m.memory)) < end.Int64() {
		m.memory = append(m.memory, make([]byte, 32)...)
	}
	return true
}

func memoryPrice(words *big.Int) *big.Int {
	square := new(big.Int).Mul(words, words)
	square.Rsh(square, 9)
	return square.Add(square, new(big.Int).Mul(words, big.NewInt(3)))
}

// takesOf is how many words an instruction needs; -1, if the byte is none of those that call none.
func takesOf(b int) int {
	switch {
	case b == stop, b == mark, b == self, b >= caller && b <= size, b >= gasLeft && b <= room, b >= push1 && b <= push32:
		return 0
	case b == zero, b == not, b == balance, b == arg, b == pop, b == load, b == keep, b == jump:
		return 1
	case b == addMod, b == mulMod, b == tell:
		return 3
	case b >= 1 && b <= 22, b == store, b == store8, b == put, b == jumpIf, b == give:
		return 2
	case b >= 128 && b <= 143:
		return b - 127
	case b >= 144 && b <= 159:
		return b - 142
	}
	return -1
}

// step runs one instruction.
func (m *model) step() {
	b := 0
	if m.at < len(m.code) {
		b = int(m.code[m.at])
	}
	takes := takesOf(b)
	grows := b >= caller && b <= size || b == self || b >= gasLeft && b <= room || b >= 96 && b <= 143
	if takes < 0 || takes > len(m.stack) || grows && len(m.stack) == 1024 {
		m.bad = true
		return
	}
	none := new(big.Int)
	switch {
	case b == stop:
		m.isDone = true
	case b <= 22:
		m.works(b, takes)
	case b <= room:
		m.asks(b)
	case b >= push1 && b <= push32:
		if m.pays(3, none, none) {
			list := make([]byte, b-95)
			copy(list, m.code[m.at+1:])
			m.lays(large256(string(list)))
			m.at += b - 95
		}
	case b >= 128 && b <= 143:
		if m.pays(3, none, none) {
			m.lays(m.stack[len(m.stack)-takes])
		}
	case b >= 144:
		if m.pays(3, none, none) {
			list := m.pops(takes)
			list[0], list[takes-1] = list[takes-1], list[0]
			slices.Reverse(list)
			m.stack = append(m.stack, list...)
		}
	default:
		m.moves(b, m.pops(takes))
	}
	m.at++
}

func (m *model) works(b, takes int) {
	list := append(m.pops(takes), of(0), of(0))
	cost := map[int]int{mul: 5, div: 5, mod: 5, sdiv: 5, smod: 5, extend: 5, addMod: 8, mulMod: 8, exp: 10 + 10*len(large(list[1]).Bytes())}[b]
	if m.pays(max(3, cost), new(big.Int), new(big.Int)) {
		m.lays(expected(byte(b), list[0], list[1], list[2]))
	}
}

func (m *model) asks(b int) {
	cost := map[int]int{balance: 20, arg: 3}[b]
	if !m.pays(max(2, cost), new(big.Int), new(big.Int)) {
		return
	}
	switch b {
	case self:
		m.lays(of(target))
	case balance:
		id := int(m.pops(1)[0][0] % (1 << 32))
		if m.balances[id] == nil {
			m.lays(of(0))
		} else {
			m.lays(word(m.balances[id]))
		}
	case caller:
		m.lays(of(sender))
	case value:
		m.lays(m.value)
	case size:
		m.lays(of(uint64(len(m.data))))
	case arg:
		list := make([]byte, 32)
		if a := large(m.pops(1)[0]); a.Cmp(big.NewInt(int64(len(m.data)))) < 0 {
			copy(list, m.data[a.Int64():])
		}
		m.lays(large256(string(list)))
	case gasLeft:
		m.lays(of(uint64(m.gas)))
	case place:
		m.lays(of(uint64(m.at)))
	case room:
		m.lays(of(uint64(len(m.memory))))
	}
}

func (m *model) moves(b int, l []api.Word) {
	none, a := new(big.Int), new(big.Int)
	if len(l) > 0 {
		a = large(l[0])
	}
	switch b {
	case pop:
		m.pays(2, none, none)
	case load:
		if m.pays(3, a, big.NewInt(32)) {
			m.lays(large256(string(m.memory[a.Int64() : a.Int64()+32])))
		}
	case store:
		if m.pays(3, a, big.NewInt(32)) {
			copy(m.memory[a.Int64():], inBytes(l[1]))
		}
	case store8:
		if m.pays(3, a, big.NewInt(1)) {
			m.memory[a.Int64()] = inBytes(l[1])[31]
		}
	case keep:
		if m.pays(50, none, none) {
			m.lays(m.slots[l[0]])
		}
	case put:
		m.puts(l[0], l[1])
	case jump:
		if m.pays(8, none, none) {
			m.jumps(a)
		}
	case jumpIf:
		if m.pays(10, none, none) && l[1] != of(0) {
			m.jumps(a)
		}
	case mark:
		m.pays(1, none, none)
	case tell:
		n := large(l[1])
		if n.BitLen() > 40 {
			m.bad = true
		} else if m.pays(375+8*int(n.Int64()), a, n) {
			m.logs = append(m.logs, api.Log{Account: target, Topic: l[2], Data: m.piece(a, n)})
		}
	case give:
		n := large(l[1])
		if m.pays(0, a, n) {
			m.out, m.isDone = m.piece(a, n), true
		}
	}
}

func (m *model) piece(a, n *big.Int) string {
	if n.Sign() == 0 {
		return ""
	}
	return string(m.memory[a.Int64() : a.Int64()+n.Int64()])
}

func (m *model) puts(key, w api.Word) {
	cost := 5000
	if m.slots[key] == of(0) && w != of(0) {
		cost = 20000
	}
	if !m.pays(cost, new(big.Int), new(big.Int)) {
		return
	}
	if m.slots[key] != of(0) && w == of(0) {
		m.back += 15000
	}
	m.slots[key] = w
}

// jumps goes through the whole code for the Marks that stand in no Push.
func (m *model) jumps(a *big.Int) {
	for i := 0; i < len(m.code); i++ {
		b := m.code[i]
		if b == mark && a.Cmp(big.NewInt(int64(i))) == 0 {
			m.at = i - 1
			return
		}
		if b >= push1 && b <= push32 {
			i += int(b) - 95
		}
	}
	m.bad = true
}

// modelled is what must come of an order to the account 2 that is not refused.
func modelled(list []api.Account, o api.Order) (api.Result, []api.Account) {
	gas := o.Gas - atOnce - 4*len(o.Data)
	gas -= 64 * (len(o.Data) - bytes.Count([]byte(o.Data), []byte{0}))
	m := &model{code: list[1].Code, data: o.Data, value: o.Value, gas: gas, balances: map[int]*big.Int{}, slots: map[api.Word]api.Word{}}
	all := new(big.Int).Mul(big.NewInt(int64(o.Gas)), big.NewInt(int64(o.Price)))
	sent := large(o.Value)
	for _, a := range list {
		m.balances[a.ID] = large(a.Balance)
	}
	m.balances[sender].Sub(m.balances[sender], all).Sub(m.balances[sender], sent)
	m.balances[target].Add(m.balances[target], sent)
	for _, s := range list[1].Slots {
		m.slots[s.Key] = s.Value
	}
	for !m.bad && !m.isDone {
		m.step()
	}
	r := api.Result{Good: true, Logs: m.logs, Out: m.out}
	if m.bad {
		m.gas, m.back, r = 0, 0, api.Result{}
		m.slots = map[api.Word]api.Word{}
		for _, s := range list[1].Slots {
			m.slots[s.Key] = s.Value
		}
		m.balances[sender].Add(m.balances[sender], sent)
		m.balances[target].Sub(m.balances[target], sent)
	}
	r.Gas = o.Gas - m.gas
	r.Gas -= min(m.back, r.Gas/2)
	if m.balances[o.Miner] == nil {
		m.balances[o.Miner] = new(big.Int)
	}
	m.balances[sender].Add(m.balances[sender], big.NewInt(int64((o.Gas-r.Gas)*o.Price)))
	m.balances[o.Miner].Add(m.balances[o.Miner], big.NewInt(int64(r.Gas*o.Price)))
	return r, m.accounts(list)
}

func (m *model) accounts(list []api.Account) []api.Account {
	list = slices.Clone(list)
	if len(m.balances) > len(list) {
		list = append(list, api.Account{ID: miner})
	}
	for i := range list {
		list[i].Balance = word(m.balances[list[i].ID])
	}
	list[0].Nonce++
	list[1].Slots = nil
	for key, w := range m.slots {
		if w != of(0) {
			list[1].Slots = append(list[1].Slots, api.Slot{Key: key, Value: w})
		}
	}
	slices.SortFunc(list[1].Slots, func(a, b api.Slot) int { return large(a.Key).Cmp(large(b.Key)) })
	return list
}

// drawCode draws a code that mostly has the words that it takes, and sometimes not.
func drawCode(r *rand.Rand) string {
	code, depth := "", 0
	for n := r.Intn(150); n > 0; n-- {
		b := r.Intn(160)
		if r.Intn(100) == 0 {
			b = r.Intn(256)
		}
		takes := takesOf(b)
		if takes < 0 && r.Intn(30) > 0 || takes > depth && r.Intn(50) > 0 || b == stop && r.Intn(20) > 0 || b == give && r.Intn(10) > 0 || b >= 60 && b <= 64 && b != give {
			b, takes = push1+r.Intn(2), 0
		}
		switch {
		case (b == jump || b == jumpIf) && depth >= takes && r.Intn(8) > 0:
			code += text(push1+1, (len(code)+4)/256, (len(code)+4)%256, b, mark)
			depth += 1 - takes
			continue
		case b == load || b == store || b == store8 || b == tell || b == give:
			code += push(uint64(r.Intn(90)), uint64(r.Intn(200)))
			depth += 2
		}
		code += text(b)
		switch {
		case b >= push1 && b <= push32:
			w := inBytes(draw(r))
			code += w[32-(b-95):]
			depth++
		case b >= 96 && b <= 143 || b <= 32 && takes == 0:
			depth++
		case b <= 32 || b == load || b == keep:
			depth += 1 - max(takes, 0)
		case b < 96:
			depth -= max(takes, 0)
		}
	}
	return code[:min(len(code), 2000)]
}

// TestModel: P6, P7 and P9 of drawn codes and orders, each world doing several.
func TestModel(t *testing.T) {
	r := rand.New(rand.NewSource(1))
	good := 0
	for range 4000 {
		list := []api.Account{{ID: sender, Balance: api.Word{0, r.Uint64(), 0, r.Uint64() >> 1}}, {ID: target, Balance: of(r.Uint64()), Code: drawCode(r), Slots: slots(r.Intn(5), of(6))}}
		w := world(t, list...)
		for nonce := range 3 {
			data := make([]byte, r.Intn(50))
			for i := range data {
				data[i] = byte(r.Intn(256) * r.Intn(2))
			}
			o := api.Order{From: sender, To: target, Nonce: nonce, Value: of(r.Uint64()), Price: r.Intn(3), Gas: 26000 + r.Intn(1+r.Intn(200000)), Data: string(data), Miner: 1 + r.Intn(3)}
			want, after := modelled(list, o)
			got := does(t, w, o)
			if list = plain(w.Accounts()); !reflect.DeepEqual(got, want) || !reflect.DeepEqual(list, after) {
				t.Fatalf("P6: %+v of %x:\n%+v, want\n%+v;\n%v, want\n%v", o, list[1].Code, got, want, list, after)
			}
			if got.Gas*2 < atOnce || got.Gas > o.Gas {
				t.Fatalf("P9: %+v takes %d", o, got.Gas)
			}
			if got.Good {
				good++
			}
		}
	}
	if good < 2000 || good > 10000 {
		t.Errorf("%d of 12000 orders end well: the codes that are drawn are too tame or too wild", good)
	}
}

// TestAnyOrder: P1, no order makes a call panic or never end, whatever its numbers are.
func TestAnyOrder(t *testing.T) {
	r := rand.New(rand.NewSource(2))
	numbers := []int{-1 << 63, -1, 0, 1, 2, 3, 20999, 21000, 53000, 1000000, 1000001, 1<<32 - 1, 1 << 32, 1 << 62, 1<<63 - 1}
	any := func() int { return numbers[r.Intn(len(numbers))] }
	for range 3000 {
		code := make([]byte, r.Intn(300))
		r.Read(code)
		w, err := purser.New([]api.Account{{ID: 1, Balance: draw(r)}, {ID: 2, Code: string(code)}})
		if err != nil {
			t.Fatal(err)
		}
		for range 10 {
			o := api.Order{From: 1, To: 2, Gas: 1000000, Miner: 1, Value: draw(r), Data: bytesOf(r.Intn(2100)), Nonce: find(w, 1).Nonce}
			for _, p := range []*int{&o.From, &o.To, &o.Nonce, &o.Gas, &o.Price, &o.Miner} {
				if r.Intn(6) == 0 {
					*p = any()
				}
			}
			w.Do(o)
		}
	}
}
