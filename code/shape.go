package code

// Shape is what an instruction does to the stack, and what it costs, but for what hangs on its words. A Dup takes all down to the word that it lays on once more, and lays them back.
type Shape struct {
	Takes, Lays, Gas int
}

// ShapeOf is the shape of an instruction; false, if the byte is none.
func ShapeOf(instruction byte) (Shape, bool) {
	switch instruction {
	case Stop:
		return Shape{0, 0, 0}, true
	case Return:
		return Shape{2, 0, 0}, true
	case Destroy:
		return Shape{1, 0, 0}, true
	case Mark:
		return Shape{0, 0, 1}, true
	case Self, Caller, Value, Size, Gas, Place, Room:
		return Shape{0, 1, 2}, true
	case Pop:
		return Shape{1, 0, 2}, true
	case Arg, Load:
		return Shape{1, 1, 3}, true
	case Store, Store8:
		return Shape{2, 0, 3}, true
	case Jump:
		return Shape{1, 0, 8}, true
	case JumpIf:
		return Shape{2, 0, 10}, true
	case Balance:
		return Shape{1, 1, 20}, true
	case Keep:
		return Shape{1, 1, 50}, true
	case Log:
		return Shape{3, 0, 375}, true
	case Put:
		return Shape{2, 0, 5000}, true
	case Create:
		return Shape{3, 1, 32000}, true
	case Call:
		return Shape{7, 1, 40}, true
	case Lend:
		return Shape{6, 1, 40}, true
	}
	if instruction <= Byte {
		return shapeOfWork(instruction), true
	}
	return shapeInRow(int(instruction))
}

func shapeOfWork(instruction byte) Shape {
	switch instruction {
	case Zero, Not:
		return Shape{1, 1, 3}
	case Mul, Div, Mod, SDiv, SMod, Extend:
		return Shape{2, 1, 5}
	case AddMod, MulMod:
		return Shape{3, 1, 8}
	case Exp:
		return Shape{2, 1, 10}
	}
	return Shape{2, 1, 3}
}

func shapeInRow(instruction int) (Shape, bool) {
	switch {
	case instruction >= Push1 && instruction <= Push32:
		return Shape{0, 1, 3}, true
	case instruction >= Dup1 && instruction <= Dup16:
		depth := instruction - Dup1 + 1
		return Shape{depth, depth + 1, 3}, true
	case instruction >= Swap1 && instruction <= Swap16:
		depth := instruction - Swap1 + 2
		return Shape{depth, depth, 3}, true
	}
	return Shape{}, false
}
