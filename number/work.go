package number

import (
	"purser/api"
	"purser/code"
)

// Work is what an op makes of its words; 0 of what is no op.
func Work(op byte, a, b, c api.Word) api.Word {
	switch op {
	case code.Add:
		return Add(a, b)
	case code.Sub:
		return Sub(a, b)
	case code.Mul:
		return Mul(a, b)
	case code.Div:
		return Div(a, b)
	case code.Mod:
		return Mod(a, b)
	case code.SDiv:
		return SDiv(a, b)
	case code.SMod:
		return SMod(a, b)
	case code.AddMod:
		return AddMod(a, b, c)
	case code.MulMod:
		return MulMod(a, b, c)
	case code.Exp:
		return Exp(a, b)
	case code.Extend:
		return Extend(a, b)
	case code.Less:
		return truth(Less(a, b))
	case code.Greater:
		return truth(Less(b, a))
	case code.SLess:
		return truth(SLess(a, b))
	case code.SGreater:
		return truth(SLess(b, a))
	case code.Equal:
		return truth(a == b)
	case code.Zero:
		return truth(a == api.Word{})
	case code.And:
		return And(a, b)
	case code.Or:
		return Or(a, b)
	case code.Xor:
		return Xor(a, b)
	case code.Not:
		return Not(a)
	case code.Byte:
		return Byte(a, b)
	}
	return api.Word{}
}

func truth(yes bool) api.Word {
	if yes {
		return api.Word{1}
	}
	return api.Word{}
}
