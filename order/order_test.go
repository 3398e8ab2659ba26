package order

import (
	"reflect"
	"testing"

	"purser/api"
	"purser/ledger"
)

// TestNothingKept: behind an order nothing is kept of the way there, whether it ended well, badly or was refused.
func TestNothingKept(t *testing.T) {
	l := ledger.New([]api.Account{{ID: 1}, {ID: 2, Code: "\xff"}})
	for nonce, to := range []int{1, 2, 0, 5, -1} {
		Do(l, api.Order{From: 1, To: to, Nonce: nonce, Gas: 60000, Miner: 1})
		if l.Now() != 0 {
			t.Errorf("behind an order to %d: %d changes are kept", to, l.Now())
		}
	}
	if n := l.Nonce(1); n != 4 {
		t.Errorf("%d orders were done, want 4", n)
	}
}

// TestCostAtOnce: P5, what an order costs at once.
func TestCostAtOnce(t *testing.T) {
	for _, c := range []struct {
		to   int
		data string
		want int
	}{
		{1, "", 21000}, {0, "", 53000}, {1, "\x00", 21004}, {1, "\x01", 21068}, {0, "\x00\x01\xff", 53140}, {1, "\u00e9", 21136},
	} {
		if got := costAtOnce(api.Order{To: c.to, Data: c.data}); got != c.want {
			t.Errorf("P5: to %d with %q costs %d, want %d", c.to, c.data, got, c.want)
		}
	}
}

// TestNonceOnce: P6, an order raises the sender's nonce once, whether it calls or creates, and however that ends.
func TestNonceOnce(t *testing.T) {
	l := ledger.New([]api.Account{{ID: 1, Balance: api.Word{1000000}}})
	for nonce, o := range []api.Order{{To: 1}, {To: 0}, {To: 0, Data: "\xff"}, {To: 5, Value: api.Word{3}}} {
		o.From, o.Nonce, o.Gas, o.Miner = 1, nonce, 60000, 2
		if _, err := Do(l, o); err != nil || l.Nonce(1) != nonce+1 {
			t.Errorf("P6: %+v: %v, the nonce is %d, want %d", o, err, l.Nonce(1), nonce+1)
		}
	}
}

// TestTold: P6, what is told of a call, of a creation, and of what ended badly.
func TestTold(t *testing.T) {
	gives := "\x60\x02\x60\x00\x3f"
	l := ledger.New([]api.Account{{ID: 1}, {ID: 2, Code: gives}, {ID: 3, Code: "\xff"}})
	for nonce, c := range []struct {
		o    api.Order
		want api.Result
	}{
		{api.Order{To: 2}, api.Result{Good: true, Gas: 21009, Out: "\x00\x00"}},
		{api.Order{Data: gives}, api.Result{Good: true, Gas: 53000 + 4*68 + 4 + 9 + 400, Created: 1000000}},
		{api.Order{To: 3}, api.Result{Gas: 60000}},
		{api.Order{Data: "\xff"}, api.Result{Gas: 60000}},
		{api.Order{}, api.Result{Good: true, Gas: 53000, Created: 1000002}},
	} {
		c.o.From, c.o.Nonce, c.o.Gas, c.o.Miner = 1, nonce, 60000, 1
		if got, err := Do(l, c.o); err != nil || !reflect.DeepEqual(got, c.want) {
			t.Errorf("P6: %+v: %+v, %v, want %+v", c.o, got, err, c.want)
		}
	}
}
