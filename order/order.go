// Package order does orders: it refuses those that may not be, has the machine run the others, and settles what was paid.
package order

import (
	"purser/api"
	"purser/ledger"
	"purser/machine"
)

// Do does an order on the accounts of a ledger, or tells why it is refused.
func Do(l *ledger.Ledger, o api.Order) (api.Result, error) {
	if why := refusal(l, o); why != 0 {
		return api.Result{}, api.Refusal{Why: why}
	}
	l.Take(o.From, coins(o.Gas, o.Price))
	m := machine.New(l)
	end := begin(m, l, o)
	result := tell(m, end)
	result.Gas = settle(l, o, end.Left(), m.Back())
	l.Settle()
	return result, nil
}

// begin calls the account that the order is to, or creates one, with the gas that is left behind what the order costs at once. The nonce goes up once: a creation raises it by itself.
func begin(m *machine.Machine, l *ledger.Ledger, o api.Order) machine.End {
	gas := o.Gas - costAtOnce(o)
	if o.To == 0 {
		return m.Create(machine.Creation{Creator: o.From, Value: o.Value, Gas: gas, Code: o.Data})
	}
	l.RaiseNonce(o.From)
	return m.Call(machine.Call{Caller: o.From, To: o.To, Value: o.Value, Gas: gas, Data: []byte(o.Data)})
}

// tell is what came of an order, but for the gas. Of what ended badly nothing is told.
func tell(m *machine.Machine, end machine.End) api.Result {
	switch e := end.(type) {
	case machine.Well:
		return api.Result{Good: true, Logs: m.Logs(), Out: e.Out}
	case machine.Made:
		return api.Result{Good: true, Logs: m.Logs(), Created: e.ID}
	default:
		return api.Result{}
	}
}

// settle pays the sender for the gas that is left and the miner for the rest, which it tells. At most half of what was taken is given back.
func settle(l *ledger.Ledger, o api.Order, left, back int) int {
	taken := o.Gas - left
	taken -= min(back, taken/2)
	l.Give(o.From, coins(o.Gas-taken, o.Price))
	l.Give(o.Miner, coins(taken, o.Price))
	return taken
}
