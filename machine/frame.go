package machine

import (
	"purser/api"
	"purser/code"
	"purser/number"
)

// What Put costs more where there was nothing, and what it gives back where nothing is left.
const (
	freshSlot   = 15000
	clearedSlot = 15000
)

// What Call costs more with a value, and for an account that there is not.
const (
	anyValue     = 9000
	freshAccount = 25000
)

// frame runs a code.
type frame struct {
	machine      *Machine
	began        moment
	text         string
	marks        code.Marks
	self, caller int
	value        api.Word
	data         []byte // may be a piece of the caller's memory, which lies still as long as this frame runs
	gas          int
	stack        stack
	memory       memory
	place        int // where the instruction stands that is run
	next         int // where the one behind it stands
}

// run goes from instruction to instruction until the frame ends.
func (f *frame) run() End {
	for {
		if end := f.step(); end != nil {
			return end
		}
	}
}

// step runs an instruction; nil, if the frame goes on.
func (f *frame) step() End {
	instruction := f.instruction()
	if err := f.pay(instruction); err != nil {
		return f.badly(err)
	}
	f.next = f.place + code.Length(instruction)
	end := f.do(instruction)
	if end == nil {
		f.place = f.next
	}
	return end
}

func (f *frame) instruction() byte {
	if f.place >= len(f.text) {
		return code.Stop
	}
	return f.text[f.place]
}

func (f *frame) well(out []byte) End { return Well{Gas: f.gas, Out: string(out)} }

func (f *frame) badly(why error) End {
	fault := &Fault{Account: f.self, Place: f.place, Why: why, began: f.began}
	return Badly{Gas: f.gas, Why: fault}
}

// pay looks at what may end the frame, in the order that the document sets, and pays for the instruction and the memory that it touches.
func (f *frame) pay(instruction byte) error {
	shape, is := code.ShapeOf(instruction)
	if !is {
		return ErrNoInstruction
	}
	if len(f.stack) < shape.Takes {
		return ErrFewWords
	}
	if len(f.stack)-shape.Takes+shape.Lays > api.MaxStack {
		return ErrManyWords
	}
	size, err := f.touches(instruction)
	if err != nil {
		return err
	}
	cost := shape.Gas + f.extra(instruction) + f.memory.cost(size)
	if cost > f.gas {
		return ErrNoGas
	}
	f.gas -= cost
	f.memory.grow(size)
	return nil
}

// touches is how far an instruction reaches into the memory.
func (f *frame) touches(instruction byte) (int, error) {
	switch instruction {
	case code.Load, code.Store:
		return reach(f.stack.at(1), api.Word{wordBytes})
	case code.Store8:
		return reach(f.stack.at(1), api.Word{1})
	case code.Log, code.Return:
		return reach(f.stack.at(1), f.stack.at(2))
	case code.Create:
		return reach(f.stack.at(2), f.stack.at(3))
	case code.Call:
		return f.farther(4)
	case code.Lend:
		return f.farther(3)
	}
	return 0, nil
}

// farther is how far two stretches reach, the first of which begins at the n-th word from the top.
func (f *frame) farther(n int) (int, error) {
	first, err := reach(f.stack.at(n), f.stack.at(n+1))
	if err != nil {
		return 0, err
	}
	second, err := reach(f.stack.at(n+2), f.stack.at(n+3))
	return max(first, second), err
}

// extra is what an instruction costs by its words. The bytes of a Log are within reach by now, so they are few enough to be counted.
func (f *frame) extra(instruction byte) int {
	switch instruction {
	case code.Exp:
		return 10 * number.ByteLength(f.stack.at(2))
	case code.Put:
		if f.kept(f.stack.at(1)) == (api.Word{}) && f.stack.at(2) != (api.Word{}) {
			return freshSlot
		}
	case code.Log:
		return 8 * int(f.stack.at(2)[0])
	case code.Call:
		return f.handed() + f.extraOfCall()
	case code.Lend:
		return f.handed()
	}
	return 0
}

// handed is the gas that Call and Lend hand on; of more than the frame has, one more than it has, which is too much as well.
func (f *frame) handed() int {
	gas, is := number.Index(f.stack.at(1), f.gas+1)
	if !is {
		return f.gas + 1
	}
	return gas
}

func (f *frame) extraOfCall() int {
	extra := 0
	if f.stack.at(3) != (api.Word{}) {
		extra += anyValue
	}
	if !f.machine.ledger.Has(number.ID(f.stack.at(2))) {
		extra += freshAccount
	}
	return extra
}

func (f *frame) kept(key api.Word) api.Word { return f.machine.ledger.Slot(f.self, key) }
