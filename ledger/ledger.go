// Package ledger keeps the accounts of a world.
package ledger

import (
	"maps"
	"slices"
	"strings"
	"sync"

	"purser/api"
	"purser/code"
	"purser/number"
)

// account is an account without its ID. No slot has the value 0.
type account struct {
	balance api.Word
	nonce   int
	code    string
	marks   code.Marks
	slots   map[api.Word]api.Word
}

// Ledger is accounts by their IDs, how many of them were created, and what was done to them since it was settled.
type Ledger struct {
	accounts map[int]*account
	created  int
	changes  []change
	doomed   map[int]struct{}
}

// New makes a ledger of accounts that are allowed.
func New(accounts []api.Account) *Ledger {
	marks := findMarks(accounts)
	l := &Ledger{
		accounts: make(map[int]*account, len(accounts)),
		doomed:   make(map[int]struct{}),
	}
	for i, a := range accounts {
		l.accounts[a.ID] = &account{
			balance: a.Balance,
			nonce:   a.Nonce,
			code:    strings.Clone(a.Code),
			marks:   marks[i],
			slots:   keptSlots(a.Slots),
		}
	}
	return l
}

// findMarks looks the codes through, each by a goroutine of its own.
func findMarks(accounts []api.Account) []code.Marks {
	marks := make([]code.Marks, len(accounts))
	var workers sync.WaitGroup
	for i, a := range accounts {
		workers.Go(func() { marks[i] = code.FindMarks(a.Code) })
	}
	workers.Wait()
	return marks
}

func keptSlots(slots []api.Slot) map[api.Word]api.Word {
	kept := make(map[api.Word]api.Word)
	for _, s := range slots {
		if s.Value != (api.Word{}) {
			kept[s.Key] = s.Value
		}
	}
	return kept
}

// Accounts tells all accounts by their IDs, their slots by their keys.
func (l *Ledger) Accounts() []api.Account {
	list := make([]api.Account, 0, len(l.accounts))
	for _, id := range slices.Sorted(maps.Keys(l.accounts)) {
		list = append(list, l.accounts[id].tell(id))
	}
	return list
}

func (a *account) tell(id int) api.Account {
	return api.Account{
		ID:      id,
		Balance: a.balance,
		Nonce:   a.nonce,
		Code:    a.code,
		Slots:   a.tellSlots(),
	}
}

func (a *account) tellSlots() []api.Slot {
	list := make([]api.Slot, 0, len(a.slots))
	for _, key := range slices.SortedFunc(maps.Keys(a.slots), number.Compare) {
		list = append(list, api.Slot{Key: key, Value: a.slots[key]})
	}
	return list
}
