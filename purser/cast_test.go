package purser_test

import (
	"slices"
	"testing"

	"purser/api"
	"purser/purser"
)

// other is the first of the accounts that the target of an order calls; the next ones follow.
const other = 10

// cast is a world of a sender, of the target with the first code, and of the others with the next ones; each but the sender has 50 coins.
func cast(t *testing.T, codes ...string) *purser.World {
	t.Helper()
	list := []api.Account{{ID: sender, Balance: of(riches)}, {ID: target, Balance: of(50), Code: codes[0]}}
	for i, code := range codes[1:] {
		list = append(list, api.Account{ID: other + i, Balance: of(50), Code: code})
	}
	return world(t, list...)
}

// calling is a Call by the words that the document names; to lay them on costs callWords.
func calling(g, to, v, a, b, c, d uint64) string { return push(d, c, b, a, v, to, g) + text(call) }

// calls is a Call without a value, without data, and with nothing taken back.
func calls(g, to uint64) string { return calling(g, to, 0, 0, 0, 0, 0) }

// lending is a Lend; to lay its words on costs lendWords.
func lending(g, to, a, b, c, d uint64) string { return push(d, c, b, a, to, g) + text(lend) }

// creating remembers a code and creates an account by it; all that ahead of Create costs rememberGas and createWords.
func creating(v uint64, code string) string {
	return remembered(code) + push(uint64(len(code)), 0, v) + text(create)
}

const (
	callWords   = 21
	lendWords   = 18
	createWords = 9
)

// keeping keeps what is on top under a key, for 3 and what Put costs.
func keeping(key uint64) string { return push(key) + text(put) }

// telling tells what is on top as the topic, for tellGas.
func telling() string { return push(0, 0) + text(tell) }

const tellGas = 6 + 375

// givesText is a code that gives a text, for rememberGas and 6.
func givesText(list string) string {
	return remembered(list) + push(uint64(len(list)), 0) + text(give)
}

// skipping is a code and a piece behind it, which is run only if the code lays 0 on.
func skipping(code, piece string) string {
	dest := len(code) + 4 + len(piece)
	return code + text(push1+1, dest>>8, dest&255, jumpIf) + piece + text(mark)
}

// needs checks that an order to the target needs so much gas beside what it costs at once, and takes so much of it. With one less it ends badly, and nothing is done.
func needs(t *testing.T, name string, needed, taken int, codes ...string) {
	t.Helper()
	for _, more := range []int{100000, 1, 0} {
		if r := does(t, cast(t, codes...), ask(needed+more)); !r.Good || r.Gas != atOnce+taken {
			t.Errorf("P6: %s, with %d more gas: %+v, want good with %d", name, more, r, atOnce+taken)
		}
	}
	endsBadly(t, name+", with one less", cast(t, codes...), ask(needed-1))
}

// plays has a world do an order to the target that ends well, and takes so much gas beside what it costs at once; below 0: any.
func plays(t *testing.T, name string, w *purser.World, taken int) api.Result {
	t.Helper()
	o := ask(api.MaxGas - atOnce)
	o.Nonce = find(w, sender).Nonce
	r := does(t, w, o)
	if !r.Good || taken >= 0 && r.Gas != atOnce+taken {
		t.Errorf("P6: %s: %+v, want good with %d", name, r, atOnce+taken)
	}
	return r
}

// keeps checks what an account keeps under the keys from 0 on.
func keeps(t *testing.T, name string, w *purser.World, id int, want ...uint64) {
	t.Helper()
	for key, v := range want {
		if got := kept(w, id, of(uint64(key))); got != of(v) {
			t.Errorf("P6: %s: %d keeps %v under %d, want %d", name, id, got, key, v)
		}
	}
}

// tells checks the topics of what was told.
func tells(t *testing.T, name string, r api.Result, want ...uint64) {
	t.Helper()
	var got []uint64
	for _, l := range r.Logs {
		got = append(got, l.Topic[0])
	}
	if !slices.Equal(got, want) {
		t.Errorf("P6: %s: tells %v, want %v", name, got, want)
	}
}

// has checks the coins of accounts, given in pairs of an ID and a number; below 0: the account is not there.
func has(t *testing.T, name string, w *purser.World, pairs ...int) {
	t.Helper()
	for i := 0; i < len(pairs); i += 2 {
		is := slices.ContainsFunc(w.Accounts(), func(a api.Account) bool { return a.ID == pairs[i] })
		if is != (pairs[i+1] >= 0) {
			t.Errorf("P6: %s: account %d there: %v", name, pairs[i], is)
		}
		if got := find(w, pairs[i]).Balance; is && got != of(uint64(pairs[i+1])) {
			t.Errorf("P6: %s: %d has %v, want %d", name, pairs[i], got, pairs[i+1])
		}
	}
}
