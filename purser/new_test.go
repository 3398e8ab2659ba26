package purser_test

import (
	"math"
	"runtime"
	"testing"
	"time"

	"purser/api"
	"purser/purser"
)

// TestNewAllowed: P3, ordinary worlds, and each bound at its number.
func TestNewAllowed(t *testing.T) {
	for name, list := range map[string][]api.Account{
		"nil":                     nil,
		"no account":              {},
		"an ordinary one":         {{ID: 1, Balance: of(1000000)}, {ID: 2, Nonce: 3, Code: "\x60\x05\x60\x07\x01\x60\x00\x2d\x00", Slots: slots(2, of(7))}},
		"64 accounts":             accounts(64),
		"the ID 1":                {{ID: 1}},
		"the ID 999999":           {{ID: 999999}},
		"IDs that do not rise":    {{ID: 9}, {ID: 3}, {ID: 5}},
		"one with all coins":      {{ID: 1, Balance: greatest}, {ID: 2}},
		"all coins together":      {{ID: 1, Balance: least}, {ID: 2, Balance: api.Word{top, top, top, 1<<63 - 1}}},
		"the nonce 2^62":          {{ID: 1, Nonce: 1 << 62}},
		"2000 bytes of code":      {{ID: 1, Code: bytesOf(2000)}},
		"64 slots":                {{ID: 1, Slots: slots(64, of(1))}},
		"64 slots, all 0":         {{ID: 1, Slots: slots(64, of(0))}},
		"one key in two accounts": {{ID: 1, Slots: slots(1, of(1))}, {ID: 2, Slots: slots(1, of(2))}},
		"keys that differ above":  {{ID: 1, Slots: []api.Slot{{Key: api.Word{1, 0, 0, 1}}, {Key: api.Word{1, 0, 0, 2}}}}},
	} {
		if w, err := purser.New(list); w == nil || err != nil {
			t.Errorf("P3: %s: world %v, error %v", name, w != nil, err)
		}
	}
}

// TestNewRefused: P3 and P1, each bound one beyond its number, and other worlds that may not be.
func TestNewRefused(t *testing.T) {
	key := api.Word{1, 2, 3, 4}
	for name, list := range map[string][]api.Account{
		"65 accounts":                accounts(65),
		"the ID 0":                   {{ID: 0}},
		"the ID -1":                  {{ID: -1}},
		"the least ID":               {{ID: math.MinInt}},
		"the ID 1000000":             {{ID: 1000000}},
		"the greatest ID":            {{ID: math.MaxInt}},
		"an ID 2^32 above another":   {{ID: 1<<32 + 1}},
		"a bad one behind good ones": {{ID: 1}, {ID: 2}, {ID: 0}},
		"one ID twice":               {{ID: 5}, {ID: 6}, {ID: 5}},
		"coins of 2^256":             {{ID: 1, Balance: greatest}, {ID: 2, Balance: of(1)}},
		"coins of 2^256 by halves":   {{ID: 1, Balance: least}, {ID: 2, Balance: least}},
		"coins wrapped midway":       {{ID: 1, Balance: greatest}, {ID: 2, Balance: greatest}, {ID: 3, Balance: of(2)}},
		"the nonce -1":               {{ID: 1, Nonce: -1}},
		"the least nonce":            {{ID: 1, Nonce: math.MinInt}},
		"the nonce 2^62 + 1":         {{ID: 1, Nonce: 1<<62 + 1}},
		"the greatest nonce":         {{ID: 1, Nonce: math.MaxInt}},
		"2001 bytes of code":         {{ID: 1, Code: bytesOf(2001)}},
		"65 slots":                   {{ID: 1, Slots: slots(65, of(1))}},
		"65 slots, all 0":            {{ID: 1, Slots: slots(65, of(0))}},
		"one key twice":              {{ID: 1, Slots: []api.Slot{{Key: key, Value: of(1)}, {Key: of(1), Value: of(1)}, {Key: key, Value: of(2)}}}},
		"one key twice, one value 0": {{ID: 1, Slots: []api.Slot{{Key: key, Value: of(1)}, {Key: key}}}},
		"one key twice, both 0":      {{ID: 1, Slots: []api.Slot{{Key: key}, {Key: key}}}},
	} {
		w, err := purser.New(list)
		if w != nil {
			t.Errorf("P1: %s: a world beside the refusal", name)
		}
		if err != (api.Refusal{Why: api.BadWorld}) {
			t.Errorf("P3: %s: error %#v, want BadWorld as it is", name, err)
		}
	}
}

// TestNewLeavesNoGoroutine: those that look for marks have ended when New answers.
func TestNewLeavesNoGoroutine(t *testing.T) {
	before := runtime.NumGoroutine()
	for range 50 {
		world(t, accounts(64)...)
	}
	// A goroutine that has done its work may be counted for a moment more.
	for range 100 {
		if runtime.NumGoroutine() <= before {
			return
		}
		time.Sleep(10 * time.Millisecond)
	}
	t.Errorf("%d goroutines, %d ahead of New", runtime.NumGoroutine(), before)
}
