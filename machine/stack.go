package machine

import "purser/api"

// stack is words, the topmost last. Whether there are enough is looked at ahead of each instruction.
type stack []api.Word

func (s *stack) lay(w api.Word) { *s = append(*s, w) }

func (s *stack) take() api.Word {
	w := s.at(1)
	*s = (*s)[:len(*s)-1]
	return w
}

// at is the n-th word from the top, from 1 on.
func (s stack) at(n int) api.Word { return s[len(s)-n] }

// swap changes the places of the topmost and the n-th word from the top.
func (s stack) swap(n int) {
	top, other := len(s)-1, len(s)-n
	s[top], s[other] = s[other], s[top]
}
