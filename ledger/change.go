package ledger

import (
	"errors"

	"purser/api"
	"purser/code"
	"purser/number"
)

// ErrLittle is why coins cannot be sent: there are too few.
var ErrLittle = errors.New("too few coins")

// Has tells whether there is an account.
func (l *Ledger) Has(id int) bool {
	_, is := l.accounts[id]
	return is
}

// Balance is what an account has.
func (l *Ledger) Balance(id int) api.Word { return l.look(id).balance }

// Nonce is an account's nonce.
func (l *Ledger) Nonce(id int) int { return l.look(id).nonce }

// Code is an account's code, and its marks, which are not to be written into.
func (l *Ledger) Code(id int) (string, code.Marks) {
	a := l.look(id)
	return a.code, a.marks
}

// Slot is what an account keeps under a key.
func (l *Ledger) Slot(id int, key api.Word) api.Word { return l.look(id).slots[key] }

// Afford is ErrLittle, if an account has less than so many coins.
func (l *Ledger) Afford(id int, coins api.Word) error {
	if number.Less(l.Balance(id), coins) {
		return ErrLittle
	}
	return nil
}

// NewID is the ID of an account that is created. It is never given again, even if the creation is undone.
func (l *Ledger) NewID() int {
	id := api.FirstNew + l.created
	l.created++
	return id
}

// Send sends coins that an account has, even none, to another.
func (l *Ledger) Send(from, to int, coins api.Word) {
	l.Take(from, coins)
	l.Give(to, coins)
}

// Take takes coins that an account has.
func (l *Ledger) Take(id int, coins api.Word) {
	a := l.touch(id)
	l.setBalance(a, number.Sub(a.balance, coins))
}

// Give gives coins, even none, to an account.
func (l *Ledger) Give(id int, coins api.Word) {
	a := l.touch(id)
	l.setBalance(a, number.Add(a.balance, coins))
}

func (l *Ledger) setBalance(a *account, balance api.Word) {
	l.note(changedBalance{of: a, before: a.balance})
	a.balance = balance
}

// RaiseNonce counts an account's nonce up by one.
func (l *Ledger) RaiseNonce(id int) {
	a := l.touch(id)
	l.note(changedNonce{of: a, before: a.nonce})
	a.nonce++
}

// SetCode gives an account its code.
func (l *Ledger) SetCode(id int, text string) {
	a := l.touch(id)
	l.note(changedCode{of: a, code: a.code, marks: a.marks})
	a.code, a.marks = text, code.FindMarks(text)
}

// Doom has an account be destroyed when all is settled; false, if it was to be already.
func (l *Ledger) Doom(id int) bool {
	if _, is := l.doomed[id]; is {
		return false
	}
	l.doomed[id] = struct{}{}
	l.note(cameToBeDoomed{id: id})
	return true
}

// Put makes an account keep a word under a key.
func (l *Ledger) Put(id int, key, value api.Word) {
	a := l.touch(id)
	l.note(changedSlot{of: a, key: key, before: a.slots[key]})
	a.put(key, value)
}

// put keeps no slot with the value 0.
func (a *account) put(key, value api.Word) {
	if value == (api.Word{}) {
		delete(a.slots, key)
		return
	}
	a.slots[key] = value
}

// look is an account to be read; one that there is not is as an empty one.
func (l *Ledger) look(id int) account {
	if a, is := l.accounts[id]; is {
		return *a
	}
	return account{}
}

// touch is an account to be changed; one that there is not comes to be.
func (l *Ledger) touch(id int) *account {
	if a, is := l.accounts[id]; is {
		return a
	}
	a := &account{slots: make(map[api.Word]api.Word)}
	l.accounts[id] = a
	l.note(cameToBe{id: id})
	return a
}
