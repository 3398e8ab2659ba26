package ledger

import (
	"purser/api"
	"purser/number"
)

const lastGiven = api.FirstNew - 1

// Allowed tells whether a world may be made of the accounts.
func Allowed(accounts []api.Account) bool {
	if len(accounts) > api.MaxAccounts {
		return false
	}
	for _, a := range accounts {
		if !allowedAccount(a) {
			return false
		}
	}
	return differentIDs(accounts) && payable(accounts)
}

func allowedAccount(a api.Account) bool {
	return a.ID >= 1 && a.ID <= lastGiven &&
		a.Nonce >= 0 && a.Nonce <= api.MaxNonce &&
		len(a.Code) <= api.MaxCode &&
		len(a.Slots) <= api.MaxSlots && differentKeys(a.Slots)
}

func differentIDs(accounts []api.Account) bool {
	seen := make(map[int]struct{}, len(accounts))
	for _, a := range accounts {
		seen[a.ID] = struct{}{}
	}
	return len(seen) == len(accounts)
}

func differentKeys(slots []api.Slot) bool {
	seen := make(map[api.Word]struct{}, len(slots))
	for _, s := range slots {
		seen[s.Key] = struct{}{}
	}
	return len(seen) == len(slots)
}

// payable tells whether all balances together are a word: so no account can ever have more than one.
func payable(accounts []api.Account) bool {
	var sum api.Word
	for _, a := range accounts {
		var carry uint64
		sum, carry = number.Sum(sum, a.Balance)
		if carry != 0 {
			return false
		}
	}
	return true
}
