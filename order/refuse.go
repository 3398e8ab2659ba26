package order

import (
	"purser/api"
	"purser/ledger"
	"purser/number"
)

const (
	lastID = 1<<32 - 1

	anyOrder    = 21000
	anyCreation = 32000
	zeroByte    = 4
	otherByte   = 68
)

// refusal is why an order is not done; 0, if it is.
func refusal(l *ledger.Ledger, o api.Order) int {
	switch {
	case !allowed(o):
		return api.BadOrder
	case o.From == 0 || !l.Has(o.From):
		return api.NoSender
	case o.Nonce != l.Nonce(o.From) || o.Nonce >= api.MaxNonce:
		return api.BadNonce
	case o.Gas < costAtOnce(o):
		return api.LittleGas
	case !payable(o, l.Balance(o.From)):
		return api.LittleCoin
	}
	return 0
}

func allowed(o api.Order) bool {
	return o.Gas >= 0 && o.Gas <= api.MaxGas &&
		o.Price >= 0 && o.Price <= api.MaxGas &&
		len(o.Data) <= api.MaxData &&
		o.To >= 0 && o.To <= lastID &&
		o.Miner >= 1 && o.Miner <= lastID &&
		o.Nonce >= 0
}

// costAtOnce is what an order costs ahead of all that it runs.
func costAtOnce(o api.Order) int {
	cost := anyOrder
	if o.To == 0 {
		cost += anyCreation
	}
	for i := range len(o.Data) {
		if o.Data[i] == 0 {
			cost += zeroByte
		} else {
			cost += otherByte
		}
	}
	return cost
}

// payable tells whether a balance is enough for all the gas and the value together, which may be too much for a word.
func payable(o api.Order, balance api.Word) bool {
	all, carry := number.Sum(coins(o.Gas, o.Price), o.Value)
	return carry == 0 && !number.Less(balance, all)
}

// coins is what gas costs at a price.
func coins(gas, price int) api.Word {
	return api.Word{uint64(gas) * uint64(price)}
}
