package purser_test

import (
	"math"
	"reflect"
	"testing"

	"purser/api"
	"purser/purser"
)

// refuses checks that an order is refused with a Refusal as it is, and changes nothing; 0: that it is done.
func refuses(t *testing.T, name string, w *purser.World, o api.Order, why int) {
	t.Helper()
	before := w.Accounts()
	r, err := w.Do(o)
	if why == 0 {
		if err != nil {
			t.Errorf("P5: %s: refused with %v, want it done", name, err)
		}
		return
	}
	if err != error(api.Refusal{Why: why}) {
		t.Errorf("P5: %s: error %#v, want the refusal %d", name, err, why)
	}
	if !reflect.DeepEqual(r, api.Result{}) {
		t.Errorf("P1: %s: refused with the result %+v", name, r)
	}
	if after := w.Accounts(); !reflect.DeepEqual(before, after) {
		t.Errorf("P1: %s: refused, and the accounts %v are now %v", name, before, after)
	}
}

// with is an order that may be done, changed.
func with(change func(o *api.Order)) api.Order {
	o := ask(0)
	change(&o)
	return o
}

// TestOrderBounds: P5, each bound of an order at its number and one beyond it.
func TestOrderBounds(t *testing.T) {
	for name, c := range map[string]struct {
		change func(o *api.Order)
		why    int
	}{
		"an ordinary one":      {func(o *api.Order) {}, 0},
		"gas below 0":          {func(o *api.Order) { o.Gas = -1 }, api.BadOrder},
		"no gas":               {func(o *api.Order) { o.Gas = 0 }, api.LittleGas},
		"all gas":              {func(o *api.Order) { o.Gas = 1000000 }, 0},
		"too much gas":         {func(o *api.Order) { o.Gas = 1000001 }, api.BadOrder},
		"the least gas":        {func(o *api.Order) { o.Gas = math.MinInt }, api.BadOrder},
		"the most gas":         {func(o *api.Order) { o.Gas = math.MaxInt }, api.BadOrder},
		"a price below 0":      {func(o *api.Order) { o.Price = -1 }, api.BadOrder},
		"no price":             {func(o *api.Order) { o.Price = 0 }, 0},
		"the highest price":    {func(o *api.Order) { o.Price = 1000000 }, 0},
		"a price too high":     {func(o *api.Order) { o.Price = 1000001 }, api.BadOrder},
		"the most of a price":  {func(o *api.Order) { o.Price = math.MaxInt }, api.BadOrder},
		"the least of a price": {func(o *api.Order) { o.Price = math.MinInt }, api.BadOrder},
		"2000 bytes":           {func(o *api.Order) { o.Data = bytesOf(2000); o.Gas = 30000 }, 0},
		"2001 bytes":           {func(o *api.Order) { o.Data = bytesOf(2001); o.Gas = 30000 }, api.BadOrder},
		"to -1":                {func(o *api.Order) { o.To = -1 }, api.BadOrder},
		"to 1":                 {func(o *api.Order) { o.To = 1 }, 0},
		"to 2^32 - 1":          {func(o *api.Order) { o.To = 4294967295 }, 0},
		"to 2^32":              {func(o *api.Order) { o.To = 4294967296 }, api.BadOrder},
		"to the least":         {func(o *api.Order) { o.To = math.MinInt }, api.BadOrder},
		"to the greatest":      {func(o *api.Order) { o.To = math.MaxInt }, api.BadOrder},
		"a miner -1":           {func(o *api.Order) { o.Miner = -1 }, api.BadOrder},
		"a miner 0":            {func(o *api.Order) { o.Miner = 0 }, api.BadOrder},
		"a miner 1":            {func(o *api.Order) { o.Miner = 1 }, 0},
		"a miner 2^32 - 1":     {func(o *api.Order) { o.Miner = 4294967295 }, 0},
		"a miner 2^32":         {func(o *api.Order) { o.Miner = 4294967296 }, api.BadOrder},
		"the greatest miner":   {func(o *api.Order) { o.Miner = math.MaxInt }, api.BadOrder},
		"the least miner":      {func(o *api.Order) { o.Miner = math.MinInt }, api.BadOrder},
		"a nonce below 0":      {func(o *api.Order) { o.Nonce = -1 }, api.BadOrder},
		"the least nonce":      {func(o *api.Order) { o.Nonce = math.MinInt }, api.BadOrder},
		"a nonce too high":     {func(o *api.Order) { o.Nonce = 1 }, api.BadNonce},
		"the greatest nonce":   {func(o *api.Order) { o.Nonce = math.MaxInt }, api.BadNonce},
	} {
		refuses(t, name, stage(t, ""), with(c.change), c.why)
	}
}

// TestOrderSender: P5, who is no account sends nothing; a sender's ID is not cut to 32 bits.
func TestOrderSender(t *testing.T) {
	for _, from := range []int{0, -1, 4, 999999, 1000000, 1<<32 + 1, -1<<32 + 1, math.MinInt, math.MaxInt} {
		refuses(t, "a sender that is none", stage(t, ""), with(func(o *api.Order) { o.From = from }), api.NoSender)
	}
	w := stage(t, "")
	does(t, w, ask(0))
	refuses(t, "a miner that came to be", w, with(func(o *api.Order) { o.From = miner }), 0)
}

// TestOrderNonce: P5, each order has the sender's nonce, and none the nonce 2^62.
func TestOrderNonce(t *testing.T) {
	w := world(t, api.Account{ID: 1, Nonce: 7}, api.Account{ID: 2, Nonce: 1<<62 - 1})
	for _, c := range []struct{ from, nonce, why int }{
		{1, 6, api.BadNonce}, {1, 8, api.BadNonce}, {1, 0, api.BadNonce},
		{1, 7, 0}, {1, 7, api.BadNonce}, {1, 8, 0},
		{2, 1 << 62, api.BadNonce}, {2, 1<<62 - 2, api.BadNonce},
		{2, 1<<62 - 1, 0}, {2, 1<<62 - 1, api.BadNonce}, {2, 1 << 62, api.BadNonce}, {2, 1<<62 + 1, api.BadNonce},
	} {
		refuses(t, "the nonce", w, with(func(o *api.Order) { o.From, o.Nonce = c.from, c.nonce }), c.why)
	}
	if one, two := find(w, 1).Nonce, find(w, 2).Nonce; one != 9 || two != 1<<62 {
		t.Errorf("P6: nonces %d and %d, want 9 and 2^62", one, two)
	}
}

// TestOrderCostsAtOnce: P5, gas that is enough for what an order costs at once, and one less.
func TestOrderCostsAtOnce(t *testing.T) {
	for name, c := range map[string]struct {
		data string
		to   int
		cost int
	}{
		"a call":                 {"", 2, 21000},
		"a byte 0":               {"\x00", 2, 21004},
		"a byte 1":               {"\x01", 2, 21068},
		"a byte 255":             {"\xff", 2, 21068},
		"bytes of both":          {"\x00a\x00\x00bc", 2, 21000 + 3*4 + 3*68},
		"runes are bytes":        {"é", 2, 21000 + 2*68},
		"2000 bytes 0":           {bytesOf(2000), 2, 21000 + 2000*4},
		"a creation":             {"", 0, 53000},
		"a creation with a byte": {"\x00", 0, 53004},
	} {
		o := with(func(o *api.Order) { o.Data, o.To, o.Gas = c.data, c.to, c.cost })
		refuses(t, name, stage(t, ""), o, 0)
		o.Gas--
		refuses(t, name+", one less", stage(t, ""), o, api.LittleGas)
	}
}

// TestOrderCoins: P5, coins that are enough for the gas and the value together, and one less.
func TestOrderCoins(t *testing.T) {
	for name, c := range map[string]struct {
		has, value api.Word
		price      int
		why        int
	}{
		"nothing for nothing":           {of(0), of(0), 0, 0},
		"a value without coins":         {of(0), of(1), 0, api.LittleCoin},
		"just the value":                {of(9), of(9), 0, 0},
		"one less than the value":       {of(8), of(9), 0, api.LittleCoin},
		"just the gas":                  {of(63000), of(0), 3, 0},
		"one less than the gas":         {of(62999), of(0), 3, api.LittleCoin},
		"just both":                     {of(63009), of(9), 3, 0},
		"one less than both":            {of(63008), of(9), 3, api.LittleCoin},
		"the highest price":             {of(21000000000), of(0), 1000000, 0},
		"one less for the highest":      {of(20999999999), of(0), 1000000, api.LittleCoin},
		"all coins":                     {greatest, greatest, 0, 0},
		"all coins and the gas":         {greatest, greatest, 1, api.LittleCoin},
		"a sum of 2^256":                {greatest, minus(21000), 1, api.LittleCoin},
		"a sum of 2^256 - 1":            {greatest, minus(21001), 1, 0},
		"a sum that wraps to a little":  {of(1000000), greatest, 1, api.LittleCoin},
		"a value in the highest part":   {api.Word{0, 0, 0, 1}, api.Word{0, 0, 0, 1}, 0, 0},
		"one below it":                  {api.Word{top, top, top, 0}, api.Word{0, 0, 0, 1}, 0, api.LittleCoin},
		"a low part that is too little": {api.Word{0, 1}, of(5), 1, 0},
	} {
		w := world(t, api.Account{ID: sender, Balance: c.has}, api.Account{ID: target})
		refuses(t, name, w, with(func(o *api.Order) { o.Value, o.Price = c.value, c.price }), c.why)
	}
}

// TestRefusalsInOrder: P5, each refusal where all that come behind it would hold too.
func TestRefusalsInOrder(t *testing.T) {
	o := api.Order{From: 9, To: target, Nonce: 5, Gas: 20999, Price: 1000001, Value: greatest, Miner: miner}
	for _, c := range []struct {
		why  int
		mend func()
	}{
		{api.BadOrder, func() { o.Price = 1 }},
		{api.NoSender, func() { o.From = sender }},
		{api.BadNonce, func() { o.Nonce = 0 }},
		{api.LittleGas, func() { o.Gas = 21000 }},
		{api.LittleCoin, func() { o.Value = of(0) }},
		{0, func() {}},
	} {
		refuses(t, "the next would hold too", stage(t, ""), o, c.why)
		c.mend()
	}
}

// TestEachBadOrderFirst: P5, each bound is looked at ahead of the sender.
func TestEachBadOrderFirst(t *testing.T) {
	for _, change := range []func(o *api.Order){
		func(o *api.Order) { o.Gas = -1 },
		func(o *api.Order) { o.Gas = 1000001 },
		func(o *api.Order) { o.Price = -1 },
		func(o *api.Order) { o.Data = bytesOf(2001) },
		func(o *api.Order) { o.To = -1 },
		func(o *api.Order) { o.Miner = 0 },
		func(o *api.Order) { o.Nonce = -1 },
	} {
		o := with(change)
		o.From = 0
		refuses(t, "the sender is none too", stage(t, ""), o, api.BadOrder)
	}
}
