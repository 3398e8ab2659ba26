package order

import (
	"testing"

	"purser/api"
	"purser/ledger"
)

// TestNothingKept: behind an order nothing is kept of the way there, whether it ended well, badly or was refused.
func TestNothingKept(t *testing.T) {
	l := ledger.New([]api.Account{{ID: 1}, {ID: 2, Code: "\xff"}})
	for nonce, to := range []int{1, 2, 0, 5, -1} {
		Do(l, api.Order{From: 1, To: to, Nonce: nonce, Gas: 60000, Miner: 1})
		if l.Now() != 0 {
			t.Errorf("behind an order to %d: %d changes are kept", to, l.Now())
		}
	}
	if n := l.Nonce(1); n != 4 {
		t.Errorf("%d orders were done, want 4", n)
	}
}

// TestCostAtOnce: P5, what an order costs at once.
func TestCostAtOnce(t *testing.T) {
	for _, c := range []struct {
		to   int
		data string
		want int
	}{
		{1, "", 21000}, {0, "", 53000}, {1, "\x00", 21004}, {1, "\x01", 21068}, {0, "\x00\x01\xff", 53140}, {1, "\u00e9", 21136},
	} {
		if got := costAtOnce(api.Order{To: c.to, Data: c.data}); got != c.want {
			t.Errorf("P5: to %d with %q costs %d, want %d", c.to, c.data, got, c.want)
		}
	}
}

// TestCreationEndsBadly: as long as no account can be created, such an order leaves behind nothing but the gas.
func TestCreationEndsBadly(t *testing.T) {
	l := ledger.New([]api.Account{{ID: 1, Balance: api.Word{100000}}})
	r, err := Do(l, api.Order{From: 1, Gas: 60000, Price: 1, Value: api.Word{9}, Miner: 2})
	if err != nil || r.Good || r.Gas != 60000 || r.Created != 0 {
		t.Errorf("%+v, %v", r, err)
	}
	if l.Balance(1) != (api.Word{40000}) || l.Balance(2) != (api.Word{60000}) || len(l.Accounts()) != 2 {
		t.Errorf("P7: %v", l.Accounts())
	}
}
