package machine

import (
	"purser/api"
	"purser/code"
	"purser/number"
)

// do does what an instruction says; nil, if the frame goes on.
func (f *frame) do(instruction byte) End {
	switch instruction {
	case code.Stop:
		return f.well(nil)
	case code.Return:
		a, n := f.stack.take(), f.stack.take()
		return f.well(f.memory.stretch(a, n))
	case code.Jump:
		return f.jump(f.stack.take())
	case code.JumpIf:
		a, condition := f.stack.take(), f.stack.take()
		if condition != (api.Word{}) {
			return f.jump(a)
		}
	case code.Pop:
		f.stack.take()
	case code.Load, code.Store, code.Store8:
		f.remember(instruction)
	case code.Keep:
		f.stack.lay(f.kept(f.stack.take()))
	case code.Put:
		f.put(f.stack.take(), f.stack.take())
	case code.Log:
		f.tell(f.stack.take(), f.stack.take(), f.stack.take())
	case code.Create, code.Call, code.Lend:
		f.goDeeper(instruction)
	case code.Destroy:
		return f.destroy(number.ID(f.stack.take()))
	case code.Mark:
	default:
		f.layOn(instruction)
	}
	return nil
}

// jump goes on at a Mark.
func (f *frame) jump(a api.Word) End {
	place, is := number.Index(a, len(f.marks))
	if !is || !f.marks[place] {
		return f.badly(ErrNoMark)
	}
	f.next = place
	return nil
}

func (f *frame) remember(instruction byte) {
	a := f.stack.take()[0]
	switch instruction {
	case code.Load:
		f.stack.lay(number.FromBytes(f.memory[a:][:wordBytes]))
	case code.Store:
		list := number.Bytes(f.stack.take())
		copy(f.memory[a:], list[:])
	case code.Store8:
		f.memory[a] = byte(f.stack.take()[0])
	}
}

func (f *frame) put(key, value api.Word) {
	if f.kept(key) != (api.Word{}) && value == (api.Word{}) {
		f.machine.back += clearedSlot
	}
	f.machine.ledger.Put(f.self, key, value)
}

func (f *frame) tell(a, n, topic api.Word) {
	f.machine.logs = append(f.machine.logs, api.Log{
		Account: f.self,
		Topic:   topic,
		Data:    string(f.memory.stretch(a, n)),
	})
}

// layOn does what does no more than lay a word on, or change two words' places.
func (f *frame) layOn(instruction byte) {
	switch {
	case instruction <= code.Byte:
		f.stack.lay(f.work(instruction))
	case instruction <= code.Room:
		f.stack.lay(f.ask(instruction))
	case instruction <= code.Push32:
		f.stack.lay(f.pushed())
	case instruction <= code.Dup16:
		f.stack.lay(f.stack.at(int(instruction-code.Dup1) + 1))
	default:
		f.stack.swap(int(instruction-code.Swap1) + 2)
	}
}

func (f *frame) work(op byte) api.Word {
	var words [3]api.Word
	shape, _ := code.ShapeOf(op)
	for i := range shape.Takes {
		words[i] = f.stack.take()
	}
	return number.Work(op, words[0], words[1], words[2])
}

// ask is what the frame has, or knows.
func (f *frame) ask(instruction byte) api.Word {
	switch instruction {
	case code.Self:
		return of(f.self)
	case code.Balance:
		return f.machine.ledger.Balance(number.ID(f.stack.take()))
	case code.Caller:
		return of(f.caller)
	case code.Value:
		return f.value
	case code.Size:
		return of(len(f.data))
	case code.Arg:
		return f.argument(f.stack.take())
	case code.Gas:
		return of(f.gas)
	case code.Place:
		return of(f.place)
	case code.Room:
		return of(len(f.memory))
	}
	return api.Word{}
}

func (f *frame) argument(a api.Word) api.Word {
	place, is := number.Index(a, len(f.data))
	if !is {
		return api.Word{}
	}
	return piece(f.data[place:], wordBytes)
}

// pushed is the number of the bytes behind a Push, up to where the next instruction stands.
func (f *frame) pushed() api.Word {
	first := f.place + 1
	return piece(f.text[first:], f.next-first)
}

// piece is the number of the first n bytes of a text, with 0 for those behind its end; n is at most 32.
func piece[T string | []byte](text T, n int) api.Word {
	var list [wordBytes]byte
	copy(list[:n], text)
	return number.FromBytes(list[:n])
}

func of(n int) api.Word { return api.Word{uint64(n)} }
