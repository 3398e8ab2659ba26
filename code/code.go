// Package code knows the instructions that a code is made of.
package code

// The instructions that work words; their bytes are the ops of Work.
const (
	Add = iota + 1
	Sub
	Mul
	Div
	Mod
	SDiv
	SMod
	AddMod
	MulMod
	Exp
	Extend
	Less
	Greater
	SLess
	SGreater
	Equal
	Zero
	And
	Or
	Xor
	Not
	Byte
)

// Stop ends a frame, and so does the end of a code.
const Stop = 0

// The instructions that ask what a frame has.
const (
	Self = iota + 24
	Balance
	Caller
	Value
	Size
	Arg
	Gas
	Place
	Room
)

// The instructions that move words, and those that go elsewhere.
const (
	Pop = iota + 40
	Load
	Store
	Store8
	Keep
	Put
	Jump
	JumpIf
	Mark
)

// Log tells bytes of the memory.
const Log = 50

// The instructions that begin another frame, and those that end their own.
const (
	Create = iota + 60
	Call
	Lend
	Return
	Destroy
)

// The instructions that there are in rows: Push 1 to 32, Dup 1 to 16, Swap 1 to 16.
const (
	Push1  = 96
	Push32 = 127
	Dup1   = 128
	Dup16  = 143
	Swap1  = 144
	Swap16 = 159
)
