// Package purser: accounts with code, and what is ordered of them: see DOC.md.
package purser

import (
	"purser/api"
	"purser/ledger"
	"purser/number"
	"purser/order"
)

// World is a world of accounts.
type World struct {
	ledger *ledger.Ledger
}

// New makes a world of accounts (P3).
func New(accounts []api.Account) (*World, error) {
	if !ledger.Allowed(accounts) {
		return nil, api.Refusal{Why: api.BadWorld}
	}
	return &World{ledger: ledger.New(accounts)}, nil
}

// Work works an operation of two or three words (P4).
func Work(op byte, a, b, c api.Word) api.Word { return number.Work(op, a, b, c) }

// Do does what is ordered (P5 to P9).
func (w *World) Do(o api.Order) (api.Result, error) { return order.Do(w.ledger, o) }

// Accounts tells all accounts (P10).
func (w *World) Accounts() []api.Account { return w.ledger.Accounts() }
