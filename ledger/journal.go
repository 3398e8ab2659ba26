package ledger

import "purser/api"

// change is what was done to an account, and knows how to take it back.
type change interface {
	undo(l *Ledger)
}

type (
	cameToBe struct {
		id int
	}
	changedBalance struct {
		of     *account
		before api.Word
	}
	changedNonce struct {
		of     *account
		before int
	}
	changedSlot struct {
		of          *account
		key, before api.Word
	}
)

func (c cameToBe) undo(l *Ledger)       { delete(l.accounts, c.id) }
func (c changedBalance) undo(l *Ledger) { c.of.balance = c.before }
func (c changedNonce) undo(l *Ledger)   { c.of.nonce = c.before }
func (c changedSlot) undo(l *Ledger)    { c.of.put(c.key, c.before) }

// Now is a moment that Undo can go back to, until Settle.
func (l *Ledger) Now() int { return len(l.changes) }

// Undo takes back all that was done since a moment, the last first.
func (l *Ledger) Undo(moment int) {
	for i := len(l.changes) - 1; i >= moment; i-- {
		l.changes[i].undo(l)
	}
	l.changes = l.changes[:moment]
}

// Settle makes all that was done stay.
func (l *Ledger) Settle() { l.changes = nil }

func (l *Ledger) note(c change) { l.changes = append(l.changes, c) }
