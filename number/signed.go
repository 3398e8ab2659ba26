package number

import "purser/api"

// SDiv is a / b of the signed numbers, towards 0; 0, if b is 0.
func SDiv(a, b api.Word) api.Word {
	quotient := Div(size(a), size(b))
	if negative(a) != negative(b) {
		return negate(quotient)
	}
	return quotient
}

// SMod is the rest of a / b of the signed numbers, with a's sign; 0, if b is 0.
func SMod(a, b api.Word) api.Word {
	rest := Mod(size(a), size(b))
	if negative(a) {
		return negate(rest)
	}
	return rest
}

// SLess tells whether a is below b as a signed number.
func SLess(a, b api.Word) bool {
	if negative(a) != negative(b) {
		return negative(a)
	}
	return Less(a, b)
}

// size is the signed number a without its sign. The least one's size is its own word.
func size(a api.Word) api.Word {
	if negative(a) {
		return negate(a)
	}
	return a
}

func negative(a api.Word) bool {
	return a[len(a)-1]>>63 == 1
}

func negate(a api.Word) api.Word {
	return Sub(api.Word{}, a)
}
