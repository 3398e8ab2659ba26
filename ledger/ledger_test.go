package ledger

import (
	"slices"
	"strings"
	"testing"

	"purser/api"
	"purser/code"
)

// TestMarksOfEach: each account has the marks of its own code, however many there are.
func TestMarksOfEach(t *testing.T) {
	var list []api.Account
	for i := range api.MaxAccounts {
		list = append(list, api.Account{ID: i + 1, Code: strings.Repeat("\x00", i) + "\x30\x60\x30\x30"})
	}
	l := New(list)
	for i := range api.MaxAccounts {
		want := make(code.Marks, i+4)
		want[i], want[i+3] = true, true
		if got := l.accounts[i+1].marks; !slices.Equal(got, want) {
			t.Errorf("account %d: marks %v, want %v", i+1, got, want)
		}
	}
}

// TestZeroSlotsNotKept: a slot with the value 0 is none.
func TestZeroSlotsNotKept(t *testing.T) {
	l := New([]api.Account{{ID: 1, Slots: []api.Slot{{Key: api.Word{1}}, {Key: api.Word{2}, Value: api.Word{0, 0, 0, 1}}}}})
	if got := l.accounts[1].slots; len(got) != 1 || got[api.Word{2}] != (api.Word{0, 0, 0, 1}) {
		t.Errorf("kept: %v", got)
	}
}
