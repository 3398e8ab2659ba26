package code

// Marks tells of each byte of a code whether it is a Mark.
type Marks []bool

// FindMarks looks a code through. It goes from instruction to instruction, as a byte within a Push is no Mark.
func FindMarks(code string) Marks {
	marks := make(Marks, len(code))
	for place := 0; place < len(code); place += Length(code[place]) {
		marks[place] = code[place] == Mark
	}
	return marks
}

// Length is how many bytes an instruction has, with those that it pushes.
func Length(instruction byte) int {
	if instruction >= Push1 && instruction <= Push32 {
		return int(instruction-Push1) + 2
	}
	return 1
}
