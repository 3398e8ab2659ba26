package machine

import (
	"purser/api"
	"purser/code"
	"purser/number"
)

const (
	gift      = 2300  // the gas that goes with a value
	codeByte  = 200   // what a byte of a new account's code costs
	destroyed = 24000 // what is given back for an account that is to be destroyed
)

// goDeeper begins another frame, which is paid for by now.
func (f *frame) goDeeper(instruction byte) {
	switch instruction {
	case code.Create:
		f.create(f.stack.take(), f.stack.take(), f.stack.take())
	case code.Call:
		f.call()
	case code.Lend:
		f.lend()
	}
}

// create creates an account by the n bytes of the memory from a on, with all the gas that is left.
func (f *frame) create(value, a, n api.Word) {
	end := f.machine.Create(Creation{
		Creator: f.self,
		Value:   value,
		Gas:     f.gas,
		Code:    string(f.memory.stretch(a, n)),
	})
	f.gas = end.Left()
	switch e := end.(type) {
	case Made:
		f.stack.lay(of(e.ID))
	default:
		f.stack.lay(of(0))
	}
}

func (f *frame) call() {
	gas, to, value := int(f.stack.take()[0]), number.ID(f.stack.take()), f.stack.take()
	if value != (api.Word{}) {
		gas += gift
	}
	f.comeBack(f.machine.Call(Call{
		Caller: f.self,
		To:     to,
		Value:  value,
		Gas:    gas,
		Data:   f.takeStretch(),
	}))
}

func (f *frame) lend() {
	gas, lender := int(f.stack.take()[0]), number.ID(f.stack.take())
	f.comeBack(f.machine.lend(lender, f, gas, f.takeStretch()))
}

// comeBack goes on behind a call: the stretch of the memory that is still on the stack takes what was given.
func (f *frame) comeBack(end End) {
	taken := f.takeStretch()
	f.gas += end.Left()
	switch e := end.(type) {
	case Well:
		copy(taken, e.Out)
		f.stack.lay(of(1))
	default:
		f.stack.lay(of(0))
	}
}

// takeStretch is the stretch of the memory that the two topmost words tell.
func (f *frame) takeStretch() []byte { return f.memory.stretch(f.stack.take(), f.stack.take()) }

// keepCode makes what the frame of a creation gave the code of its account, if that can be paid for and is not too long.
func (f *frame) keepCode(end End) End {
	switch e := end.(type) {
	case Well:
		cost := codeByte * len(e.Out)
		if cost > e.Gas {
			return f.badly(ErrNoGas)
		}
		if len(e.Out) > api.MaxCode {
			return f.badly(ErrLongCode)
		}
		f.machine.ledger.SetCode(f.self, e.Out)
		return Made{Gas: e.Gas - cost, ID: f.self}
	default:
		return end
	}
}

// destroy gives all that the account has to another, and ends the frame.
func (f *frame) destroy(heir int) End {
	l := f.machine.ledger
	l.Send(f.self, heir, l.Balance(f.self))
	if l.Doom(f.self) {
		f.machine.back += destroyed
	}
	return f.well(nil)
}
