package purser_test

import (
	"reflect"
	"slices"
	"strings"
	"testing"
	"unsafe"

	"purser/api"
	"purser/purser"
)

// sample is two accounts with slots, in lists that have spare room, filled too.
func sample() []api.Account {
	kept := append(slots(3, of(8)), api.Slot{Key: of(77), Value: of(77)})[:3]
	list := []api.Account{
		{ID: 7, Balance: of(5), Nonce: 6, Code: "\x30\x01", Slots: kept},
		{ID: 3, Balance: of(9), Slots: []api.Slot{{Key: of(2), Value: of(1)}, {Key: of(1)}}},
		{ID: 88},
	}
	return list[:2]
}

func spoil(list []api.Account) {
	list = list[:cap(list)]
	for i := range list {
		kept := list[i].Slots[:cap(list[i].Slots)]
		for j := range kept {
			kept[j] = api.Slot{Key: of(55), Value: of(55)}
		}
		list[i] = api.Account{ID: 55, Balance: of(55), Nonce: 55, Code: "55"}
	}
}

// copied is a copy that shares nothing with the list, spare room and all.
func copied(list []api.Account) []api.Account {
	whole := slices.Clone(list[:cap(list)])
	for i := range whole {
		whole[i].Slots = slices.Clone(whole[i].Slots[:cap(whole[i].Slots)])
	}
	return whole
}

// TestHandedInNotWritten: P2, of worlds that may be made and that may not.
func TestHandedInNotWritten(t *testing.T) {
	bad := sample()
	bad[1].ID = 7
	for _, list := range [][]api.Account{sample(), bad} {
		before := copied(list)
		if w, _ := purser.New(list); w != nil {
			spoil(w.Accounts())
		}
		if after := copied(list); !reflect.DeepEqual(before, after) {
			t.Errorf("P2: handed in %v, it is now %v", before, after)
		}
	}
}

// TestHandedInNotKept: P2, what becomes of the list behind New does not touch the world.
func TestHandedInNotKept(t *testing.T) {
	list := sample()
	w := world(t, list...)
	before := copied(w.Accounts())
	spoil(list)
	if after := copied(w.Accounts()); !reflect.DeepEqual(before, after) {
		t.Errorf("P2: the world had %v, it has %v", before, after)
	}
}

// TestCodeNotKept: P2, the text of a code is a copy.
func TestCodeNotKept(t *testing.T) {
	handedIn := strings.Repeat("\x30", 50)
	got := world(t, api.Account{ID: 1, Code: handedIn}).Accounts()[0].Code
	if got != handedIn || unsafe.StringData(got) == unsafe.StringData(handedIn) {
		t.Error("P2: the code that comes out shares memory with the one that went in")
	}
}

// TestAnswersAreNew: P2, an answer is the caller's, its spare room too, and touches neither the world nor another answer.
func TestAnswersAreNew(t *testing.T) {
	w := world(t, sample()...)
	first, second := w.Accounts(), w.Accounts()
	before := copied(second)
	spoil(first)
	if !reflect.DeepEqual(before, copied(second)) {
		t.Errorf("P2: a second answer was %v, it is %v", before, second)
	}
	if got := copied(w.Accounts()); !reflect.DeepEqual(before, got) {
		t.Errorf("P2: the world had %v, it has %v", before, got)
	}
}

// TestListsOfOneAnswer: P2, no two lists of one answer share memory.
func TestListsOfOneAnswer(t *testing.T) {
	got := world(t, sample()...).Accounts()
	other := slices.Clone(got[1].Slots)
	for range 70 {
		got[0].Slots = append(got[0].Slots, api.Slot{Key: of(55), Value: of(55)})
	}
	if !slices.Equal(other, got[1].Slots) {
		t.Errorf("P2: the slots of another account were %v, they are %v", other, got[1].Slots)
	}
}

// TestWorldsApart: P2, worlds of one list are each their own, and a refused one changes none.
func TestWorldsApart(t *testing.T) {
	list := sample()
	one, two := world(t, list...), world(t, list...)
	before := copied(two.Accounts())
	spoil(one.Accounts())
	if w, err := purser.New([]api.Account{{ID: 7}, {ID: 7}}); w != nil || err == nil {
		t.Errorf("P3: world %v, error %v, want a refusal", w != nil, err)
	}
	for _, w := range []*purser.World{one, two} {
		if got := copied(w.Accounts()); !reflect.DeepEqual(before, got) {
			t.Errorf("P2: a world had %v, it has %v", before, got)
		}
	}
}
