package purser_test

import "testing"

// TestLendNeeds: P6, each price of Lend, with just the gas for it and one less; what is handed on comes back. Nothing more is paid for an account that there is not, and it does not come to be.
func TestLendNeeds(t *testing.T) {
	for name, c := range map[string]struct {
		g, to, a, b, c, d uint64
		price             int
	}{
		"no code":                       {to: other, price: 40},
		"some gas":                      {to: other, g: 5000, price: 40},
		"what is not there":             {to: 77, price: 40},
		"what is not there, and gas":    {to: 77, g: 9, price: 40},
		"the account 0":                 {to: 0, price: 40},
		"a byte":                        {to: other, b: 1, price: 40 + 3},
		"two bytes over the edge":       {to: other, a: 31, b: 2, price: 40 + 6},
		"a byte taken":                  {to: other, d: 1, price: 40 + 3},
		"two bytes taken over the edge": {to: other, c: 31, d: 2, price: 40 + 6},
		"the second stretch farther":    {to: other, a: 10, b: 20, c: 90, d: 7, price: 40 + 12},
		"the first stretch farther":     {to: other, a: 90, b: 7, c: 10, d: 20, price: 40 + 12},
		"a long first stretch":          {to: other, b: 32 * 724, d: 9, g: 8, price: 40 + 2172 + 1023},
		"a long second stretch":         {to: other, b: 9, d: 32 * 724, g: 8, price: 40 + 2172 + 1023},
	} {
		needs(t, "Lend of "+name, lendWords+c.price+int(c.g), lendWords+c.price, lending(c.g, c.to, c.a, c.b, c.c, c.d), "")
	}
	w := cast(t, lending(100, 77, 0, 0, 0, 0)+keeping(0)+lending(100, other, 0, 0, 0, 0)+keeping(1), "")
	plays(t, "no code", w, 2*(lendWords+40+20003))
	keeps(t, "no code", w, target, 1, 1)
	has(t, "no code", w, 77, -1)
}

// TestLendLays: P6, 1 if the code that is lent ends well, else 0; all its gas is gone then. It has just the gas that is handed on.
func TestLendLays(t *testing.T) {
	for name, c := range map[string]struct {
		code         string
		g            uint64
		laid, inside int
	}{
		"just gas enough": {push(1), 3, 1, 3},
		"one less":        {push(1), 2, 0, 2},
		"no instruction":  {push(1) + text(255), 1000, 0, 1000},
		"a Return":        {givesText("x"), 1000, 1, 18},
	} {
		w := cast(t, lending(c.g, other, 0, 0, 0, 0)+keeping(0), c.code)
		plays(t, name, w, lendWords+40+c.inside+5003+15000*c.laid)
		keeps(t, name, w, target, uint64(c.laid))
	}
	w := cast(t, lending(1000, other, 0, 0, 0, 0), text(gasLeft)+telling())
	o := ask(100000)
	o.Value = of(9)
	tells(t, "the gas that is lent to", does(t, w, o), 998)
}

// TestLendSees: P6, the code that is lent runs for the account of the one who lends it, with that one's caller and value, with data, a stack and a memory of its own.
func TestLendSees(t *testing.T) {
	sees := text(self) + telling() + text(caller) + telling() + text(value) + telling() + text(size) + telling() + text(room) + telling() + text(self, balance) + telling() + push(0) + text(arg) + telling()
	middle := push(9, 31) + text(store8) + lending(100000, other+1, 0, 32, 0, 0) + telling()
	w := cast(t, calling(200000, other, 6, 0, 0, 0, 0), middle, sees+push(1, 5)+text(put))
	r := plays(t, "what a loan sees", w, -1)
	tells(t, "what a loan sees", r, other, target, 6, 32, 0, 56, 9, 1)
	for _, l := range r.Logs {
		if l.Account != other {
			t.Errorf("P6: what was told of %d, want of %d", l.Account, other)
		}
	}
	keeps(t, "what a loan puts", w, other, 0, 0, 0, 0, 0, 1)
	keeps(t, "what a loan puts", w, other+1, 0, 0, 0, 0, 0, 0)
	has(t, "a loan", w, target, 44, other, 56, other+1, 50)
	// a loan within a loan still has the first one's account, caller and value
	w = cast(t, lending(100000, other, 0, 0, 0, 0), lending(50000, other+1, 0, 0, 0, 0), sees)
	o := ask(200000)
	o.Value = of(8)
	tells(t, "a loan within a loan", does(t, w, o), target, sender, 8, 0, 0, 58, 0)
}

// TestLendNoValue: P6, a loan asks for no coins, even where the value is more than there is by now.
func TestLendNoValue(t *testing.T) {
	w := cast(t, calling(0, other+1, 57, 0, 0, 0, 0)+text(pop)+lending(1000, other, 0, 0, 0, 0)+telling(), text(value)+telling(), "")
	o := ask(200000)
	o.Value = of(7)
	tells(t, "a loan without coins", does(t, w, o), 7, 1)
	has(t, "a loan without coins", w, target, 0, other, 50, other+1, 107)
}

// TestLendItself: P6, an account that lends to itself.
func TestLendItself(t *testing.T) {
	inner := text(caller) + keeping(1) + text(self) + keeping(2) + text(value) + keeping(3)
	outer := push(0, 0, 1, 0, target, 200000) + text(lend) + keeping(0) + text(stop)
	w := cast(t, skipping(text(size), outer)+inner)
	o := ask(500000)
	o.Value = of(4)
	if r := does(t, w, o); !r.Good {
		t.Errorf("P6: %+v", r)
	}
	keeps(t, "a loan to itself", w, target, 1, sender, target, 4)
	has(t, "a loan to itself", w, target, 54)
}

// TestLentCalls: P6, code that is lent calls and creates for the account of the one who lends it.
func TestLentCalls(t *testing.T) {
	w := cast(t, lending(300000, other, 0, 0, 0, 0)+text(pop)+text(self, balance)+telling(), calling(10000, other+1, 20, 0, 0, 0, 0)+text(pop)+creating(5, text(caller)+telling())+telling(), text(caller)+telling())
	r := plays(t, "what is called by a loan", w, -1)
	tells(t, "what is called by a loan", r, target, target, 1000000, 25)
	has(t, "what is called by a loan", w, target, 25, other, 50, other+1, 70, 1000000, 5)
	if a, b := find(w, target).Nonce, find(w, other).Nonce; a != 1 || b != 0 {
		t.Errorf("P6: nonces %d and %d, want 1 and 0", a, b)
	}
}
