// Package code knows the instructions that a code is made of.
package code

// The instructions that work words; their bytes are the ops of Work.
const (
	Add = iota + 1
	Sub
	Mul
	Div
	Mod
	SDiv
	SMod
	AddMod
	MulMod
	Exp
	Extend
	Less
	Greater
	SLess
	SGreater
	Equal
	Zero
	And
	Or
	Xor
	Not
	Byte
)

// The instructions that tell where a code may be jumped to.
const (
	Mark   = 48
	Push1  = 96
	Push32 = 127
)
