package ledger

import (
	"purser/api"
	"purser/code"
)

// change is what was done to an account, and knows how to take it back.
type change interface {
	undo(l *Ledger)
}

type (
	cameToBe struct {
		id int
	}
	changedBalance struct {
		of     *account
		before api.Word
	}
	changedNonce struct {
		of     *account
		before int
	}
	changedCode struct {
		of    *account
		code  string
		marks code.Marks
	}
	changedSlot struct {
		of          *account
		key, before api.Word
	}
	cameToBeDoomed struct {
		id int
	}
)

func (c cameToBe) undo(l *Ledger)       { delete(l.accounts, c.id) }
func (c changedBalance) undo(l *Ledger) { c.of.balance = c.before }
func (c changedNonce) undo(l *Ledger)   { c.of.nonce = c.before }
func (c changedCode) undo(l *Ledger)    { c.of.code, c.of.marks = c.code, c.marks }
func (c changedSlot) undo(l *Ledger)    { c.of.put(c.key, c.before) }
func (c cameToBeDoomed) undo(l *Ledger) { delete(l.doomed, c.id) }

// Now is a moment that Undo can go back to, until Settle.
func (l *Ledger) Now() int { return len(l.changes) }

// Undo takes back all that was done since a moment, the last first.
func (l *Ledger) Undo(moment int) {
	for i := len(l.changes) - 1; i >= moment; i-- {
		l.changes[i].undo(l)
	}
	l.changes = l.changes[:moment]
}

// Settle makes all that was done stay. The accounts that are to be destroyed are gone, with all they have.
func (l *Ledger) Settle() {
	for id := range l.doomed {
		delete(l.accounts, id)
	}
	clear(l.doomed)
	l.changes = nil
}

func (l *Ledger) note(c change) { l.changes = append(l.changes, c) }
