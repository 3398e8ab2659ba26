package purser_test

import (
	"reflect"
	"testing"

	"purser/api"
)

// TestAccountsOrder: P10, accounts by their IDs and slots by their keys as numbers, whatever the order they were handed in.
func TestAccountsOrder(t *testing.T) {
	keys := []api.Word{of(0), of(1), of(2), of(top), {0, 1}, {1, 1}, {0, 0, 1}, {top, top, 1}, {0, 0, 0, 1}, least, greatest}
	var mixed, sorted []api.Slot
	for i, k := range keys {
		sorted = append(sorted, api.Slot{Key: k, Value: of(uint64(i + 1))})
		at := i * 7 % len(keys)
		mixed = append(mixed, api.Slot{Key: keys[at], Value: of(uint64(at + 1))})
	}
	w := world(t,
		api.Account{ID: 999999, Nonce: 1 << 62},
		api.Account{ID: 10, Balance: api.Word{1, 2, 3, 4}, Nonce: 5, Code: "\x00\xff\x30", Slots: mixed},
		api.Account{ID: 1},
		api.Account{ID: 9, Slots: []api.Slot{{Key: of(4), Value: greatest}}},
	)
	want := []api.Account{
		{ID: 1},
		{ID: 9, Slots: []api.Slot{{Key: of(4), Value: greatest}}},
		{ID: 10, Balance: api.Word{1, 2, 3, 4}, Nonce: 5, Code: "\x00\xff\x30", Slots: sorted},
		{ID: 999999, Nonce: 1 << 62},
	}
	for range 20 {
		if got := plain(w.Accounts()); !reflect.DeepEqual(got, want) {
			t.Fatalf("P10: Accounts = %v, want %v", got, want)
		}
	}
}

// plain has nil for each list without elements: such a list may be nil.
func plain(list []api.Account) []api.Account {
	for i := range list {
		if len(list[i].Slots) == 0 {
			list[i].Slots = nil
		}
	}
	return list
}

// TestAccountsZeroSlots: P10, a slot with the value 0 is none; one with the key 0 may be.
func TestAccountsZeroSlots(t *testing.T) {
	w := world(t, api.Account{ID: 1, Slots: slots(64, of(0))}, api.Account{ID: 2, Slots: []api.Slot{
		{Key: of(3)}, {Key: of(0), Value: api.Word{0, 0, 0, 1}}, {Key: of(1)}, {Key: of(2), Value: api.Word{0, 1}},
	}})
	got := plain(w.Accounts())
	want := []api.Account{{ID: 1}, {ID: 2, Slots: []api.Slot{
		{Key: of(0), Value: api.Word{0, 0, 0, 1}}, {Key: of(2), Value: api.Word{0, 1}},
	}}}
	if !reflect.DeepEqual(got, want) {
		t.Errorf("P10: Accounts = %v, want %v", got, want)
	}
}

// TestAccountsMany: P10, empty accounts are told too, and none of an empty world.
func TestAccountsMany(t *testing.T) {
	if got := world(t).Accounts(); len(got) != 0 {
		t.Errorf("P10: Accounts of an empty world = %v", got)
	}
	got := world(t, accounts(64)...).Accounts()
	if !reflect.DeepEqual(plain(got), accounts(64)) {
		t.Errorf("P10: Accounts of 64 empty ones = %v", got)
	}
}
