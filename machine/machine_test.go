package machine

import (
	"errors"
	"reflect"
	"strings"
	"testing"

	"purser/api"
	"purser/ledger"
)

const enough = 100000

// called is how a call of the account 2 with a code ends, and the ledger and machine behind it.
func called(code string, gas int) (End, *ledger.Ledger, *Machine) {
	l := ledger.New([]api.Account{{ID: 1, Balance: of(10)}, {ID: 2, Code: code}})
	m := New(l)
	return m.Call(Call{Caller: 1, To: 2, Value: of(4), Gas: gas}), l, m
}

// whyOf is why a call ended badly; nil, if it ended well.
func whyOf(end End) error {
	switch e := end.(type) {
	case Badly:
		return e.Why
	}
	return nil
}

// TestWhy: each way of ending badly, with the reason and the place, and none of the gas left.
func TestWhy(t *testing.T) {
	full := strings.Repeat("\x18", 1024)
	for _, c := range []struct {
		name, code string
		gas        int
		why        error
		place      int
	}{
		{"no instruction", "\x30\xff", enough, ErrNoInstruction, 1},
		{"no instruction, without gas", "\x30\xff", 1, ErrNoInstruction, 1},
		{"too few words", "\x60\x01\x01", enough, ErrFewWords, 2},
		{"too few words, without gas", "\x60\x01\x01", 3, ErrFewWords, 2},
		{"too few words for Jump", "\x2e", enough, ErrFewWords, 0},
		{"too few words for a Dup of a row", "\x60\x01\x81", enough, ErrFewWords, 2},
		{"too few words for a Swap of a row", "\x60\x01\x90", enough, ErrFewWords, 2},
		{"too many words", full + "\x18", enough, ErrManyWords, 1024},
		{"too many words, without gas", full + "\x18", 2048, ErrManyWords, 1024},
		{"too many words by a Dup", full + "\x80", enough, ErrManyWords, 1024},
		{"not gas enough", "\x30\x30\x30", 2, ErrNoGas, 2},
		{"not gas enough for the memory", "\x60\x00\x29", 8, ErrNoGas, 2},
		{"a far memory", "\x67\xff\xff\xff\xff\xff\xff\xff\xff\x29", enough, ErrNoGas, 9},
		{"not gas enough to jump nowhere", "\x60\x00\x2e", 10, ErrNoGas, 2},
		{"not gas enough to jump nowhere, if", "\x60\x01\x60\x00\x2f", 15, ErrNoGas, 4},
		{"no Mark", "\x60\x00\x2e", 11, ErrNoMark, 2},
		{"no Mark, if", "\x60\x01\x60\x00\x2f", 16, ErrNoMark, 4},
		{"a Mark within a Push", "\x60\x04\x2e\x60\x30", enough, ErrNoMark, 2},
		{"too few words for Create", "\x18\x18\x3c", 4, ErrFewWords, 2},
		{"too few words for Call", "\x18\x18\x18\x18\x18\x18\x3d", 12, ErrFewWords, 6},
		{"too few words for Lend", "\x18\x18\x18\x18\x18\x3e", 10, ErrFewWords, 5},
		{"too few words for Destroy", "\x40", 0, ErrFewWords, 0},
		{"not gas enough for Create", "\x18\x18\x18\x3c", 32000, ErrNoGas, 3},
		{"not gas enough for Call", "\x18\x18\x18\x18\x18\x18\x18\x3d", 14 + 9040, ErrNoGas, 7},
		{"not gas enough for Lend", "\x18\x18\x18\x18\x18\x18\x3e", 12 + 40, ErrNoGas, 6},
	} {
		end, _, _ := called(c.code, c.gas)
		err := whyOf(end)
		if !errors.Is(err, c.why) {
			t.Errorf("P6: %s: %v, want %v", c.name, err, c.why)
		}
		var fault *Fault
		if !errors.As(err, &fault) || fault.Account != 2 || fault.Place != c.place {
			t.Errorf("P6: %s: %v, want it at the byte %d of the account 2", c.name, err, c.place)
		}
		if end.Left() != 0 {
			t.Errorf("P6: %s: %d gas left", c.name, end.Left())
		}
	}
}

// TestFaultTells: a fault tells where it was, and why.
func TestFaultTells(t *testing.T) {
	end, _, _ := called("\x30\xff", enough)
	if got, want := whyOf(end).Error(), "account 2, byte 1: no instruction"; got != want {
		t.Errorf("a fault tells %q, want %q", got, want)
	}
}

// TestWell: a frame that is done has its gas left, and gives what it returns.
func TestWell(t *testing.T) {
	for code, want := range map[string]Well{
		"":                         {Gas: enough},
		"\x00":                     {Gas: enough},
		"\x60\x01":                 {Gas: enough - 3},
		"\x60\x02\x60\x00\x3f\xff": {Gas: enough - 9, Out: "\x00\x00"},
	} {
		end, l, _ := called(code, enough)
		if end != End(want) || end.Left() != want.Gas {
			t.Errorf("P6: %x: %+v, want %+v", code, end, want)
		}
		if l.Balance(1) != of(6) || l.Balance(2) != of(4) {
			t.Errorf("P6: %x: balances %v and %v", code, l.Balance(1), l.Balance(2))
		}
	}
}

// TestUndo: what ends badly is undone: coins, slots, what was told, what is given back, an account that came to be. What was done ahead of it stays.
func TestUndo(t *testing.T) {
	puts := "\x60\x05\x60\x01\x2d\x60\x00\x60\x01\x2d\x60\x05\x60\x02\x2d"
	tells := "\x60\x00\x60\x00\x60\x00\x32"
	l := ledger.New([]api.Account{{ID: 1, Balance: of(10)}, {ID: 2, Code: puts + tells}, {ID: 3, Code: puts + tells + "\xff"}})
	m := New(l)
	good := m.Call(Call{Caller: 1, To: 2, Value: of(4), Gas: enough})
	accounts, logs, back := l.Accounts(), m.Logs(), m.Back()
	if whyOf(good) != nil || len(logs) != 1 || back != clearedSlot || l.Slot(2, of(2)) != of(5) {
		t.Fatalf("P6: %+v, logs %v, %d given back", good, logs, back)
	}
	bad := m.Call(Call{Caller: 1, To: 3, Value: of(4), Gas: enough})
	if !errors.Is(whyOf(bad), ErrNoInstruction) {
		t.Errorf("P7: %+v", bad)
	}
	if !reflect.DeepEqual(l.Accounts(), accounts) || !reflect.DeepEqual(m.Logs(), logs) || m.Back() != back {
		t.Errorf("P7: accounts %v, logs %v, %d given back", l.Accounts(), m.Logs(), m.Back())
	}
}

// TestNotBegun: what no frame begins for has all its gas back, and changes nothing: no nonce, no ID, no account.
func TestNotBegun(t *testing.T) {
	for _, c := range []struct {
		depth int
		value api.Word
		why   error
	}{{0, of(11), ledger.ErrLittle}, {63, api.Word{0, 1}, ledger.ErrLittle}, {64, of(0), ErrDeep}, {64, of(10), ErrDeep}, {64, of(11), ErrDeep}} {
		l := ledger.New([]api.Account{{ID: 1, Balance: of(10)}})
		m := New(l)
		m.depth = c.depth
		ends := []End{m.Call(Call{Caller: 1, To: 9, Value: c.value, Gas: 77}), m.Create(Creation{Creator: 1, Value: c.value, Gas: 77})}
		if c.why == ErrDeep {
			ends = append(ends, m.lend(1, &frame{self: 1}, 77, nil))
		}
		for _, end := range ends {
			if !errors.Is(whyOf(end), c.why) || end.Left() != 77 {
				t.Errorf("P6: %+v, %d gas left, want 77 and %v", end, end.Left(), c.why)
			}
			var fault *Fault
			if errors.As(whyOf(end), &fault) {
				t.Errorf("P6: a fault %v, where no frame was", fault)
			}
		}
		if l.Now() != 0 || l.NewID() != api.FirstNew || m.depth != c.depth {
			t.Errorf("P6: accounts %v, depth %d", l.Accounts(), m.depth)
		}
	}
}

// TestDepthCounted: however frames end, as many are counted as there are.
func TestDepthCounted(t *testing.T) {
	for _, code := range []string{"", "\xff", "\x18\x40", "\x60\x01\x60\x00\x3f"} {
		l := ledger.New([]api.Account{{ID: 1, Balance: of(10)}, {ID: 2, Code: code}})
		m := New(l)
		for range 200 {
			m.Call(Call{Caller: 1, To: 2, Gas: enough})
			m.Create(Creation{Creator: 1, Gas: enough, Code: code})
			m.lend(2, &frame{self: 1}, enough, nil)
		}
		if m.depth != 0 {
			t.Errorf("P6: %x: the depth is %d behind all frames", code, m.depth)
		}
	}
}

// TestMade: how creations end: with the new account, or why not, and where.
func TestMade(t *testing.T) {
	for _, c := range []struct {
		name, code string
		gas, left  int
		why        error
		place      int
	}{
		{"no code", "", 0, 0, nil, 0},
		{"nothing given", "\x60\x01", 10, 7, nil, 0},
		{"two bytes", "\x60\x02\x60\x00\x3f", 500, 91, nil, 0},
		{"two bytes, for just that gas", "\x60\x02\x60\x00\x3f", 409, 0, nil, 0},
		{"two bytes, for one less", "\x60\x02\x60\x00\x3f", 408, 0, ErrNoGas, 4},
		{"2001 bytes", "\x61\x07\xd1\x60\x00\x3f", 1000000, 0, ErrLongCode, 5},
		{"a bad end", "\x30\xff", 500, 0, ErrNoInstruction, 1},
	} {
		l := ledger.New([]api.Account{{ID: 1, Balance: of(10)}})
		end := New(l).Create(Creation{Creator: 1, Value: of(4), Gas: c.gas, Code: c.code})
		if end.Left() != c.left || !errors.Is(whyOf(end), c.why) || l.Nonce(1) != 1 {
			t.Errorf("P6: %s: %+v, %d gas left, want %v with %d", c.name, end, end.Left(), c.why, c.left)
		}
		if c.why == nil {
			if made, is := end.(Made); !is || made.ID != api.FirstNew || l.Balance(made.ID) != of(4) {
				t.Errorf("P6: %s: %+v, %v", c.name, end, l.Accounts())
			}
			continue
		}
		var fault *Fault
		if !errors.As(whyOf(end), &fault) || fault.Account != api.FirstNew || fault.Place != c.place || l.Has(api.FirstNew) || l.Balance(1) != of(10) {
			t.Errorf("P7: %s: %v, %v", c.name, whyOf(end), l.Accounts())
		}
	}
}

// TestPushed: what a Push lays on, the bytes behind the code's end being 0.
func TestPushed(t *testing.T) {
	for code, want := range map[string]api.Word{
		"\x60":                 of(0),
		"\x60\x09":             of(9),
		"\x61\x01":             of(0x100),
		"\x61\x01\x02":         of(0x102),
		"\x67\x01":             of(1 << 56),
		"\x68\x01":             {0, 1},
		"\x7f\x01":             {0, 0, 0, 1 << 56},
		"\x7f\x01\x00\xff":     {0, 0, 0, 0x0100ff << 40},
		"\x60\x09\x7f\x80\x01": {0, 0, 0, 0x8001 << 48},
	} {
		f := New(ledger.New(nil)).begin(frame{gas: enough, text: code})
		if end, is := f.run().(Well); !is || f.stack.at(1) != want {
			t.Errorf("P6: %x: %+v, lays on %x, want %x", code, end, f.stack.at(1), want)
		}
	}
}

// TestReach: a stretch of no bytes reaches nowhere; 2^32 is the farthest.
func TestReach(t *testing.T) {
	for _, c := range []struct {
		a, n api.Word
		want int
		err  error
	}{
		{of(0), of(0), 0, nil},
		{of(9), of(0), 0, nil},
		{api.Word{0, 0, 0, 1}, of(0), 0, nil},
		{of(0), of(1), 1, nil},
		{of(31), of(2), 33, nil},
		{of(1<<32 - 1), of(1), 1 << 32, nil},
		{of(0), of(1 << 32), 1 << 32, nil},
		{of(1 << 32), of(1), 0, ErrNoGas},
		{of(1), of(1 << 32), 0, ErrNoGas},
		{of(-1), of(1), 0, ErrNoGas},
		{api.Word{0, 1}, of(1), 0, ErrNoGas},
		{of(1), api.Word{0, 0, 1}, 0, ErrNoGas},
		{api.Word{1<<64 - 1, 1<<64 - 1, 1<<64 - 1, 1<<64 - 1}, of(2), 0, ErrNoGas},
	} {
		if got, err := reach(c.a, c.n); got != c.want || err != c.err {
			t.Errorf("P6: reach(%v, %v) = %d, %v, want %d, %v", c.a, c.n, got, err, c.want, c.err)
		}
	}
}
