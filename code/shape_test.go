package code

import "testing"

// rows is what the document's table says of the bytes from one to another; Dup and Swap are counted by their place.
func rows() map[[2]int]Shape {
	return map[[2]int]Shape{
		{0, 0}:    {0, 0, 0},
		{1, 2}:    {2, 1, 3},
		{3, 7}:    {2, 1, 5},
		{8, 9}:    {3, 1, 8},
		{10, 10}:  {2, 1, 10},
		{11, 11}:  {2, 1, 5},
		{12, 16}:  {2, 1, 3},
		{17, 17}:  {1, 1, 3},
		{18, 20}:  {2, 1, 3},
		{21, 21}:  {1, 1, 3},
		{22, 22}:  {2, 1, 3},
		{24, 24}:  {0, 1, 2},
		{25, 25}:  {1, 1, 20},
		{26, 28}:  {0, 1, 2},
		{29, 29}:  {1, 1, 3},
		{30, 32}:  {0, 1, 2},
		{40, 40}:  {1, 0, 2},
		{41, 41}:  {1, 1, 3},
		{42, 43}:  {2, 0, 3},
		{44, 44}:  {1, 1, 50},
		{45, 45}:  {2, 0, 5000},
		{46, 46}:  {1, 0, 8},
		{47, 47}:  {2, 0, 10},
		{48, 48}:  {0, 0, 1},
		{50, 50}:  {3, 0, 375},
		{60, 60}:  {3, 1, 32000},
		{61, 61}:  {7, 1, 40},
		{62, 62}:  {6, 1, 40},
		{63, 63}:  {2, 0, 0},
		{64, 64}:  {1, 0, 0},
		{96, 127}: {0, 1, 3},
	}
}

// TestShapes: P6, each byte has the shape that the table says, or is no instruction.
func TestShapes(t *testing.T) {
	want := make(map[int]Shape)
	for bounds, shape := range rows() {
		for b := bounds[0]; b <= bounds[1]; b++ {
			want[b] = shape
		}
	}
	for n := 1; n <= 16; n++ {
		want[127+n] = Shape{n, n + 1, 3}
		want[143+n] = Shape{n + 1, n + 1, 3}
	}
	for b := range 256 {
		shape, is := want[b]
		if got, ok := ShapeOf(byte(b)); got != shape || ok != is {
			t.Errorf("P6: the byte %d: %v, %v, want %v, %v", b, got, ok, shape, is)
		}
	}
}
