package purser_test

import (
	"bytes"
	"maps"
	"math/big"
	"slices"

	"purser/api"
)

// modelAccount is an account as the document tells it. Its numbers are never written into, so that it may be copied by its slots alone.
type modelAccount struct {
	balance *big.Int
	nonce   int
	code    string
	slots   map[api.Word]api.Word
}

// modelWorld is a world in the plainest way: what may be undone is copied whole ahead of each frame.
type modelWorld struct {
	undoable
	created int
}

type undoable struct {
	accounts map[int]modelAccount
	logs     []api.Log
	back     int
	doomed   []int
}

func modelOf(list []api.Account) *modelWorld {
	w := &modelWorld{undoable: undoable{accounts: map[int]modelAccount{}}}
	for _, a := range list {
		m := modelAccount{balance: large(a.Balance), nonce: a.Nonce, code: a.Code, slots: map[api.Word]api.Word{}}
		for _, s := range a.Slots {
			m.slots[s.Key] = s.Value
		}
		w.accounts[a.ID] = m
	}
	return w
}

func (u undoable) copied() undoable {
	u.accounts = maps.Clone(u.accounts)
	for id, a := range u.accounts {
		a.slots = maps.Clone(a.slots)
		u.accounts[id] = a
	}
	u.logs, u.doomed = slices.Clone(u.logs), slices.Clone(u.doomed)
	return u
}

// at is an account; one that there is not is as an empty one.
func (w *modelWorld) at(id int) modelAccount {
	a, is := w.accounts[id]
	if !is {
		a = modelAccount{balance: new(big.Int), slots: map[api.Word]api.Word{}}
	}
	return a
}

func (w *modelWorld) gives(id int, coins *big.Int) {
	a := w.at(id)
	a.balance = new(big.Int).Add(a.balance, coins)
	w.accounts[id] = a
}

func (w *modelWorld) sends(from, to int, coins *big.Int) {
	w.gives(from, new(big.Int).Neg(coins))
	w.gives(to, coins)
}

func (w *modelWorld) raises(id int) {
	a := w.at(id)
	a.nonce++
	w.accounts[id] = a
}

// told is what Accounts must tell.
func (w *modelWorld) told() []api.Account {
	var list []api.Account
	for _, id := range slices.Sorted(maps.Keys(w.accounts)) {
		m := w.accounts[id]
		a := api.Account{ID: id, Balance: word(m.balance), Nonce: m.nonce, Code: m.code}
		for key, v := range m.slots {
			if v != of(0) {
				a.Slots = append(a.Slots, api.Slot{Key: key, Value: v})
			}
		}
		slices.SortFunc(a.Slots, func(a, b api.Slot) int { return large(a.Key).Cmp(large(b.Key)) })
		list = append(list, a)
	}
	return list
}

// modelEnd is how a frame of the model ended.
type modelEnd struct {
	good bool
	left int
	out  string
}

// calls is a call at a depth; none, if that is too deep or there are too few coins.
func (w *modelWorld) calls(depth, from, to int, v api.Word, gas int, data string) modelEnd {
	if depth > 64 || w.at(from).balance.Cmp(large(v)) < 0 {
		return modelEnd{left: gas}
	}
	before := w.copied()
	w.sends(from, to, large(v))
	m := &model{w: w, depth: depth, code: w.at(to).code, self: to, caller: from, value: v, data: data, gas: gas}
	return m.runs(before)
}

// creates is a creation at a depth, with the ID.
func (w *modelWorld) creates(depth, from int, v api.Word, gas int, code string) (modelEnd, int) {
	if depth > 64 || w.at(from).balance.Cmp(large(v)) < 0 {
		return modelEnd{left: gas}, 0
	}
	w.raises(from)
	id := 1000000 + w.created
	w.created++
	before := w.copied()
	w.sends(from, id, large(v))
	m := &model{w: w, depth: depth, code: code, self: id, caller: from, value: v, gas: gas}
	end := m.runs(before)
	if !end.good || len(end.out) > 2000 || 200*len(end.out) > end.left {
		w.undoable = before
		return modelEnd{}, 0
	}
	a := w.at(id)
	a.code = end.out
	w.accounts[id] = a
	return modelEnd{good: true, left: end.left - 200*len(end.out)}, id
}

// does does an order that is not refused, and tells how many coins went with what was destroyed.
func (w *modelWorld) does(o api.Order) (api.Result, *big.Int) {
	paid := func(gas int) *big.Int {
		return new(big.Int).Mul(big.NewInt(int64(gas)), big.NewInt(int64(o.Price)))
	}
	w.logs, w.back, w.doomed = nil, 0, nil
	gas := o.Gas - 21000 - 4*len(o.Data)
	gas -= 64 * (len(o.Data) - bytes.Count([]byte(o.Data), []byte{0}))
	w.gives(o.From, new(big.Int).Neg(paid(o.Gas)))
	var end modelEnd
	var r api.Result
	if o.To == 0 {
		end, r.Created = w.creates(1, o.From, o.Value, gas-32000, o.Data)
	} else {
		w.raises(o.From)
		end = w.calls(1, o.From, o.To, o.Value, gas, o.Data)
		r.Out = end.out
	}
	r.Good, r.Logs = end.good, w.logs
	r.Gas = o.Gas - end.left
	r.Gas -= min(w.back, r.Gas/2)
	w.gives(o.From, paid(o.Gas-r.Gas))
	w.gives(o.Miner, paid(r.Gas))
	gone := new(big.Int)
	for _, id := range w.doomed {
		gone.Add(gone, w.at(id).balance)
		delete(w.accounts, id)
	}
	return r, gone
}

// model is a frame as the document tells it, in the plainest way, with numbers of any length.
type model struct {
	w            *modelWorld
	depth        int
	code, data   string
	self, caller int
	value        api.Word
	stack        []api.Word
	memory       []byte
	gas, at      int
	out          string
	bad, isDone  bool
}

func (m *model) runs(before undoable) modelEnd {
	for !m.bad && !m.isDone {
		m.step()
	}
	if m.bad {
		m.w.undoable = before
		return modelEnd{}
	}
	return modelEnd{good: true, left: m.gas, out: m.out}
}

// pops takes words off, the topmost first.
func (m *model) pops(n int) []api.Word {
	list := slices.Clone(m.stack[len(m.stack)-n:])
	slices.Reverse(list)
	m.stack = m.stack[:len(m.stack)-n]
	return list
}

func (m *model) lays(w api.Word) { m.stack = append(m.stack, w) }

// pays ends the frame badly if there is not gas enough for an instruction and stretches of the memory, each of two words.
func (m *model) pays(cost int, stretches ...api.Word) bool {
	return m.paysLarge(big.NewInt(int64(cost)), stretches...)
}

func (m *model) paysLarge(cost *big.Int, stretches ...api.Word) bool {
	have := big.NewInt(int64(len(m.memory) / 32))
	most := have
	for i := 0; i < len(stretches); i += 2 {
		if stretches[i+1] == of(0) {
			continue
		}
		words := new(big.Int).Add(large(stretches[i]), large(stretches[i+1]))
		words.Add(words, big.NewInt(31)).Rsh(words, 5)
		if words.Cmp(most) > 0 {
			most = words
		}
	}
	total := new(big.Int).Sub(memoryPrice(most), memoryPrice(have))
	total.Add(total, cost)
	if total.Cmp(big.NewInt(int64(m.gas))) > 0 {
		m.bad = true
		return false
	}
	m.gas -= int(total.Int64())
	m.memory = append(m.memory, make([]byte, 32*int(most.Int64())-len(m.memory))...)
	return true
}

func memoryPrice(words *big.Int) *big.Int {
	square := new(big.Int).Mul(words, words)
	square.Rsh(square, 9)
	return square.Add(square, new(big.Int).Mul(words, big.NewInt(3)))
}

// takesOf is how many words an instruction needs; -1, if the byte is none.
func takesOf(b int) int {
	switch {
	case b == stop, b == mark, b == self, b >= caller && b <= size, b >= gasLeft && b <= room, b >= push1 && b <= push32:
		return 0
	case b == zero, b == not, b == balance, b == arg, b == pop, b == load, b == keep, b == jump, b == destroy:
		return 1
	case b == addMod, b == mulMod, b == tell, b == create:
		return 3
	case b >= 1 && b <= 22, b == store, b == store8, b == put, b == jumpIf, b == give:
		return 2
	case b == call:
		return 7
	case b == lend:
		return 6
	case b >= 128 && b <= 143:
		return b - 127
	case b >= 144 && b <= 159:
		return b - 142
	}
	return -1
}

// step runs one instruction.
func (m *model) step() {
	b := 0
	if m.at < len(m.code) {
		b = int(m.code[m.at])
	}
	takes := takesOf(b)
	grows := b >= caller && b <= size || b == self || b >= gasLeft && b <= room || b >= 96 && b <= 143
	if takes < 0 || takes > len(m.stack) || grows && len(m.stack) == 1024 {
		m.bad = true
		return
	}
	switch {
	case b == stop:
		m.isDone = true
	case b <= 22:
		m.works(b, takes)
	case b <= room:
		m.asks(b)
	case b >= push1 && b <= push32:
		if m.pays(3) {
			list := make([]byte, b-95)
			copy(list, m.code[m.at+1:])
			m.lays(large256(string(list)))
			m.at += b - 95
		}
	case b >= 128 && b <= 143:
		if m.pays(3) {
			m.lays(m.stack[len(m.stack)-takes])
		}
	case b >= 144:
		if m.pays(3) {
			list := m.pops(takes)
			list[0], list[takes-1] = list[takes-1], list[0]
			slices.Reverse(list)
			m.stack = append(m.stack, list...)
		}
	case b >= create:
		m.leaves(b, m.pops(takes))
	default:
		m.moves(b, m.pops(takes))
	}
	m.at++
}

func (m *model) works(b, takes int) {
	list := append(m.pops(takes), of(0), of(0))
	cost := map[int]int{mul: 5, div: 5, mod: 5, sdiv: 5, smod: 5, extend: 5, addMod: 8, mulMod: 8, exp: 10 + 10*len(large(list[1]).Bytes())}[b]
	if m.pays(max(3, cost)) {
		m.lays(expected(byte(b), list[0], list[1], list[2]))
	}
}

func idOf(w api.Word) int { return int(w[0] % (1 << 32)) }

func (m *model) asks(b int) {
	cost := map[int]int{balance: 20, arg: 3}[b]
	if !m.pays(max(2, cost)) {
		return
	}
	switch b {
	case self:
		m.lays(of(uint64(m.self)))
	case balance:
		m.lays(word(m.w.at(idOf(m.pops(1)[0])).balance))
	case caller:
		m.lays(of(uint64(m.caller)))
	case value:
		m.lays(m.value)
	case size:
		m.lays(of(uint64(len(m.data))))
	case arg:
		list := make([]byte, 32)
		if a := large(m.pops(1)[0]); a.Cmp(big.NewInt(int64(len(m.data)))) < 0 {
			copy(list, m.data[a.Int64():])
		}
		m.lays(large256(string(list)))
	case gasLeft:
		m.lays(of(uint64(m.gas)))
	case place:
		m.lays(of(uint64(m.at)))
	case room:
		m.lays(of(uint64(len(m.memory))))
	}
}

func (m *model) moves(b int, l []api.Word) {
	switch b {
	case pop:
		m.pays(2)
	case load:
		if m.pays(3, l[0], of(32)) {
			m.lays(large256(m.piece(l[0], of(32))))
		}
	case store:
		if m.pays(3, l[0], of(32)) {
			copy(m.memory[l[0][0]:], inBytes(l[1]))
		}
	case store8:
		if m.pays(3, l[0], of(1)) {
			m.memory[l[0][0]] = inBytes(l[1])[31]
		}
	case keep:
		if m.pays(50) {
			m.lays(m.w.at(m.self).slots[l[0]])
		}
	case put:
		m.puts(l[0], l[1])
	case jump:
		if m.pays(8) {
			m.jumps(large(l[0]))
		}
	case jumpIf:
		if m.pays(10) && l[1] != of(0) {
			m.jumps(large(l[0]))
		}
	case mark:
		m.pays(1)
	case tell:
		cost := new(big.Int).Mul(large(l[1]), big.NewInt(8))
		if m.paysLarge(cost.Add(cost, big.NewInt(375)), l[0], l[1]) {
			m.w.logs = append(m.w.logs, api.Log{Account: m.self, Topic: l[2], Data: m.piece(l[0], l[1])})
		}
	}
}

// leaves does what begins other frames, or ends this one.
func (m *model) leaves(b int, l []api.Word) {
	switch b {
	case create:
		if m.pays(32000, l[1], l[2]) {
			end, id := m.w.creates(m.depth+1, m.self, l[0], m.gas, m.piece(l[1], l[2]))
			m.gas = end.left
			m.lays(of(uint64(id)))
		}
	case call:
		cost := big.NewInt(40)
		gift := 0
		if l[2] != of(0) {
			cost.Add(cost, big.NewInt(9000))
			gift = 2300
		}
		if _, is := m.w.accounts[idOf(l[1])]; !is {
			cost.Add(cost, big.NewInt(25000))
		}
		if m.paysLarge(cost.Add(cost, large(l[0])), l[3:]...) {
			m.returns(m.w.calls(m.depth+1, m.self, idOf(l[1]), l[2], int(l[0][0])+gift, m.piece(l[3], l[4])), l[5], l[6])
		}
	case lend:
		cost := big.NewInt(40)
		if !m.paysLarge(cost.Add(cost, large(l[0])), l[2:]...) {
			return
		}
		end := modelEnd{left: int(l[0][0])}
		if m.depth < 64 {
			before := m.w.copied()
			f := &model{w: m.w, depth: m.depth + 1, code: m.w.at(idOf(l[1])).code, self: m.self, caller: m.caller, value: m.value, data: m.piece(l[2], l[3]), gas: end.left}
			end = f.runs(before)
		}
		m.returns(end, l[4], l[5])
	case give:
		if m.pays(0, l[0], l[1]) {
			m.out, m.isDone = m.piece(l[0], l[1]), true
		}
	case destroy:
		m.w.sends(m.self, idOf(l[0]), m.w.at(m.self).balance)
		if !slices.Contains(m.w.doomed, m.self) {
			m.w.doomed = append(m.w.doomed, m.self)
			m.w.back += 24000
		}
		m.isDone = true
	}
}

// returns goes on behind a call.
func (m *model) returns(end modelEnd, c, d api.Word) {
	m.gas += end.left
	m.lays(truth(end.good))
	for i := range min(uint64(len(end.out)), large(d).Uint64()) {
		m.memory[c[0]+i] = end.out[i]
	}
}

func (m *model) piece(a, n api.Word) string {
	if n == of(0) {
		return ""
	}
	return string(m.memory[a[0] : a[0]+n[0]])
}

func (m *model) puts(key, w api.Word) {
	slots := m.w.at(m.self).slots
	cost := 5000
	if slots[key] == of(0) && w != of(0) {
		cost = 20000
	}
	if !m.pays(cost) {
		return
	}
	if slots[key] != of(0) && w == of(0) {
		m.w.back += 15000
	}
	slots[key] = w
}

// jumps goes through the whole code for the Marks that stand in no Push.
func (m *model) jumps(a *big.Int) {
	for i := 0; i < len(m.code); i++ {
		b := m.code[i]
		if b == mark && a.Cmp(big.NewInt(int64(i))) == 0 {
			m.at = i - 1
			return
		}
		if b >= push1 && b <= push32 {
			i += int(b) - 95
		}
	}
	m.bad = true
}
