package ledger

import (
	"reflect"
	"testing"

	"purser/api"
)

func of(n uint64) api.Word { return api.Word{n} }

func small() *Ledger {
	return New([]api.Account{{ID: 1, Balance: of(10), Nonce: 3, Slots: []api.Slot{{Key: of(1), Value: of(1)}}}, {ID: 2}})
}

// TestUndo: P7, each change is taken back, the last first, and those ahead of the moment stay.
func TestUndo(t *testing.T) {
	for name, change := range map[string]func(l *Ledger){
		"nothing":               func(l *Ledger) {},
		"coins":                 func(l *Ledger) { l.Take(1, of(3)); l.Give(2, of(3)) },
		"coins sent":            func(l *Ledger) { l.Send(1, 2, of(4)); l.Send(2, 1, of(1)) },
		"an account":            func(l *Ledger) { l.Give(9, of(0)) },
		"an account, changed":   func(l *Ledger) { l.Give(9, of(5)); l.Put(9, of(1), of(1)); l.RaiseNonce(9); l.Give(9, of(5)) },
		"a nonce":               func(l *Ledger) { l.RaiseNonce(1); l.RaiseNonce(1) },
		"a slot":                func(l *Ledger) { l.Put(1, of(2), of(5)); l.Put(1, of(2), of(6)) },
		"a slot over another":   func(l *Ledger) { l.Put(1, of(1), of(5)); l.Put(1, of(1), of(6)) },
		"a slot cleared":        func(l *Ledger) { l.Put(1, of(1), of(0)) },
		"a slot cleared, put":   func(l *Ledger) { l.Put(1, of(1), of(0)); l.Put(1, of(1), of(8)) },
		"a slot put, cleared":   func(l *Ledger) { l.Put(1, of(7), of(8)); l.Put(1, of(7), of(0)) },
		"a slot of what is not": func(l *Ledger) { l.Put(9, of(7), of(8)) },
	} {
		l := small()
		l.Give(8, of(2))
		l.Put(1, of(5), of(5))
		before, now := l.Accounts(), l.Now()
		change(l)
		l.Undo(now)
		if got := l.Accounts(); !reflect.DeepEqual(got, before) || l.Now() != now {
			t.Errorf("P7: %s: undone to %v at %d, want %v at %d", name, got, l.Now(), before, now)
		}
		l.Undo(0)
		if got, want := l.Accounts(), small().Accounts(); !reflect.DeepEqual(got, want) {
			t.Errorf("P7: %s: all undone to %v, want %v", name, got, want)
		}
	}
}

// TestSettle: what is settled stays, and nothing of the way there is kept.
func TestSettle(t *testing.T) {
	l := small()
	l.Give(9, of(2))
	l.Settle()
	if l.Now() != 0 || l.changes != nil {
		t.Errorf("%d changes are kept", l.Now())
	}
	l.Undo(0)
	if !l.Has(9) || l.Balance(9) != of(2) {
		t.Error("what was settled is undone")
	}
}

// TestSend: coins that there are not are not sent.
func TestSend(t *testing.T) {
	l := small()
	for _, coins := range []api.Word{of(11), {0, 1}, {10, 0, 0, 1}} {
		if err := l.Send(1, 9, coins); err != ErrLittle || l.Has(9) || l.Balance(1) != of(10) {
			t.Errorf("Send of %v: %v, %v", coins, err, l.Accounts())
		}
	}
	if err := l.Send(1, 9, of(10)); err != nil || l.Balance(1) != of(0) || l.Balance(9) != of(10) {
		t.Errorf("Send of all: %v, %v", err, l.Accounts())
	}
	if err := l.Send(9, 9, of(10)); err != nil || l.Balance(9) != of(10) {
		t.Errorf("Send to itself: %v, %v", err, l.Accounts())
	}
	if err := l.Send(1, 7, of(0)); err != nil || !l.Has(7) {
		t.Errorf("Send of none: %v, %v", err, l.Accounts())
	}
}

// TestLookedAtOnly: to look at an account that there is not does not make it.
func TestLookedAtOnly(t *testing.T) {
	l := small()
	text, marks := l.Code(9)
	if l.Balance(9) != of(0) || l.Nonce(9) != 0 || text != "" || len(marks) != 0 || l.Slot(9, of(1)) != of(0) || l.Has(9) || l.Now() != 0 {
		t.Errorf("an account that there is not: %v", l.Accounts())
	}
}
