package ledger

import (
	"reflect"
	"slices"
	"testing"

	"purser/api"
	"purser/code"
)

func of(n uint64) api.Word { return api.Word{n} }

func small() *Ledger {
	return New([]api.Account{{ID: 1, Balance: of(10), Nonce: 3, Slots: []api.Slot{{Key: of(1), Value: of(1)}}}, {ID: 2}})
}

// TestUndo: P7, each change is taken back, the last first, and those ahead of the moment stay.
func TestUndo(t *testing.T) {
	for name, change := range map[string]func(l *Ledger){
		"nothing":               func(l *Ledger) {},
		"coins":                 func(l *Ledger) { l.Take(1, of(3)); l.Give(2, of(3)) },
		"coins sent":            func(l *Ledger) { l.Send(1, 2, of(4)); l.Send(2, 1, of(1)) },
		"an account":            func(l *Ledger) { l.Give(9, of(0)) },
		"an account, changed":   func(l *Ledger) { l.Give(9, of(5)); l.Put(9, of(1), of(1)); l.RaiseNonce(9); l.Give(9, of(5)) },
		"a nonce":               func(l *Ledger) { l.RaiseNonce(1); l.RaiseNonce(1) },
		"a code":                func(l *Ledger) { l.SetCode(1, "\x30"); l.SetCode(1, ""); l.SetCode(9, "\x00") },
		"what is doomed":        func(l *Ledger) { l.Doom(1); l.Doom(8); l.Doom(8) },
		"a slot":                func(l *Ledger) { l.Put(1, of(2), of(5)); l.Put(1, of(2), of(6)) },
		"a slot over another":   func(l *Ledger) { l.Put(1, of(1), of(5)); l.Put(1, of(1), of(6)) },
		"a slot cleared":        func(l *Ledger) { l.Put(1, of(1), of(0)) },
		"a slot cleared, put":   func(l *Ledger) { l.Put(1, of(1), of(0)); l.Put(1, of(1), of(8)) },
		"a slot put, cleared":   func(l *Ledger) { l.Put(1, of(7), of(8)); l.Put(1, of(7), of(0)) },
		"a slot of what is not": func(l *Ledger) { l.Put(9, of(7), of(8)) },
	} {
		l := small()
		l.Give(8, of(2))
		l.Put(1, of(5), of(5))
		l.Doom(2)
		before, now := l.Accounts(), l.Now()
		change(l)
		l.Undo(now)
		if got := l.Accounts(); !reflect.DeepEqual(got, before) || l.Now() != now || len(l.doomed) != 1 {
			t.Errorf("P7: %s: undone to %v at %d, want %v at %d", name, got, l.Now(), before, now)
		}
		l.Undo(0)
		if got, want := l.Accounts(), small().Accounts(); !reflect.DeepEqual(got, want) || len(l.doomed) != 0 {
			t.Errorf("P7: %s: all undone to %v, want %v", name, got, want)
		}
	}
}

// TestSettle: what is settled stays, and nothing of the way there is kept.
func TestSettle(t *testing.T) {
	l := small()
	l.Give(9, of(2))
	l.Settle()
	if l.Now() != 0 || l.changes != nil {
		t.Errorf("%d changes are kept", l.Now())
	}
	l.Undo(0)
	if !l.Has(9) || l.Balance(9) != of(2) {
		t.Error("what was settled is undone")
	}
}

// TestSend: coins go over, to oneself too; what they are sent to comes to be.
func TestSend(t *testing.T) {
	l := small()
	if l.Send(1, 9, of(10)); l.Balance(1) != of(0) || l.Balance(9) != of(10) {
		t.Errorf("Send of all: %v", l.Accounts())
	}
	if l.Send(9, 9, of(10)); l.Balance(9) != of(10) {
		t.Errorf("Send to itself: %v", l.Accounts())
	}
	if l.Send(1, 7, of(0)); !l.Has(7) {
		t.Errorf("Send of none: %v", l.Accounts())
	}
}

// TestAfford: coins that an account has, and one more; one that there is not has none, and does not come to be.
func TestAfford(t *testing.T) {
	l := small()
	for _, c := range []struct {
		id    int
		coins api.Word
		want  error
	}{
		{1, of(0), nil}, {1, of(9), nil}, {1, of(10), nil}, {1, of(11), ErrLittle}, {1, api.Word{0, 1}, ErrLittle}, {1, api.Word{10, 0, 0, 1}, ErrLittle},
		{2, of(0), nil}, {2, of(1), ErrLittle}, {9, of(0), nil}, {9, of(1), ErrLittle},
	} {
		if err := l.Afford(c.id, c.coins); err != c.want || l.Now() != 0 || l.Has(9) {
			t.Errorf("Afford(%d, %v): %v, want %v; %v", c.id, c.coins, err, c.want, l.Accounts())
		}
	}
}

// TestNewID: each ID is given once, whatever is undone or settled.
func TestNewID(t *testing.T) {
	l := small()
	for n := range 9 {
		now := l.Now()
		id := l.NewID()
		if id != api.FirstNew+n {
			t.Errorf("P6: the new ID is %d, want %d", id, api.FirstNew+n)
		}
		l.Give(id, of(0))
		switch n % 3 {
		case 0:
			l.Undo(now)
		case 1:
			l.Settle()
		}
	}
}

// TestDoomed: what is to be destroyed is there until all is settled, and is to be destroyed once.
func TestDoomed(t *testing.T) {
	l := small()
	if !l.Doom(1) || l.Doom(1) || !l.Doom(2) || l.Doom(2) {
		t.Error("P6: an account is to be destroyed twice, or never")
	}
	if !l.Has(1) || l.Balance(1) != of(10) {
		t.Error("P6: an account that is to be destroyed is gone too soon")
	}
	l.Give(1, of(5))
	l.Settle()
	if len(l.Accounts()) != 0 || len(l.doomed) != 0 {
		t.Errorf("P6: destroyed, and there are %v", l.Accounts())
	}
	l.Give(1, of(5))
	l.Settle()
	if got, want := l.Accounts(), []api.Account{{ID: 1, Balance: of(5), Slots: []api.Slot{}}}; !reflect.DeepEqual(got, want) {
		t.Errorf("P6: come to be anew: %v, want %v", got, want)
	}
}

// TestSetCode: a code comes with its marks, and both are taken back.
func TestSetCode(t *testing.T) {
	l := small()
	l.SetCode(2, "\x60\x30\x30")
	now := l.Now()
	for _, text := range []string{"\x30\x30", ""} {
		l.SetCode(2, text)
		if got, marks := l.Code(2); got != text || !slices.Equal(marks, code.FindMarks(text)) {
			t.Errorf("P6: the code %x with the marks %v, want %x", got, marks, text)
		}
	}
	l.Undo(now)
	if got, marks := l.Code(2); got != "\x60\x30\x30" || !slices.Equal(marks, code.Marks{false, false, true}) {
		t.Errorf("P7: undone to the code %x with the marks %v", got, marks)
	}
}

// TestLookedAtOnly: to look at an account that there is not does not make it.
func TestLookedAtOnly(t *testing.T) {
	l := small()
	text, marks := l.Code(9)
	if l.Balance(9) != of(0) || l.Nonce(9) != 0 || text != "" || len(marks) != 0 || l.Slot(9, of(1)) != of(0) || l.Has(9) || l.Now() != 0 {
		t.Errorf("an account that there is not: %v", l.Accounts())
	}
}
