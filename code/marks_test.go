package code

import (
	"slices"
	"strings"
	"testing"
)

// places are where a code's marks stand.
func places(marks Marks) []int {
	var list []int
	for i, is := range marks {
		if is {
			list = append(list, i)
		}
	}
	return list
}

func TestFindMarks(t *testing.T) {
	for _, c := range []struct {
		name string
		code string
		want []int
	}{
		{"no code", "", nil},
		{"no mark", "\x01\x02\x03", nil},
		{"a mark alone", "\x30", []int{0}},
		{"marks side by side", "\x30\x30\x00\x30", []int{0, 1, 3}},
		{"within Push 1", "\x60\x30\x30", []int{2}},
		{"within Push 2", "\x61\x30\x30\x30", []int{3}},
		{"within Push 32", "\x7f" + strings.Repeat("\x30", 34), []int{33, 34}},
		{"a Push within a Push", "\x60\x60\x30", []int{2}},
		{"behind the byte ahead of Push 1", "\x5f\x30", []int{1}},
		{"behind the byte behind Push 32", "\x80\x30", []int{1}},
		{"behind what is no instruction", "\xff\x30\x17\x30", []int{1, 3}},
		{"a Push at the end", "\x30\x60", []int{0}},
		{"a Push beyond the end", "\x30\x7f\x30\x30", []int{0}},
	} {
		marks := FindMarks(c.code)
		if len(marks) != len(c.code) {
			t.Errorf("%s: %d bytes looked at, want %d", c.name, len(marks), len(c.code))
		}
		if got := places(marks); !slices.Equal(got, c.want) {
			t.Errorf("%s: marks at %v, want %v", c.name, got, c.want)
		}
	}
}

func TestPushLengths(t *testing.T) {
	for n := 1; n <= 32; n++ {
		code := string([]byte{byte(95 + n)}) + strings.Repeat("\x30", 40)
		if got := places(FindMarks(code)); got[0] != n+1 {
			t.Errorf("Push %d: the first mark at %d, want %d", n, got[0], n+1)
		}
	}
}
