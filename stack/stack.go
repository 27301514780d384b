// Package stack has a stack, of whatever is laid on it.
package stack

import "slices"

// Stack is empty at first.
type Stack[T any] struct {
	laid []T // the lowest first
}

// Push lays one on top.
func (s *Stack[T]) Push(one T) { s.laid = append(s.laid, one) }

// Pop takes off what is on top: nothing, as the zero of T, if the stack is
// empty.
func (s *Stack[T]) Pop() T {
	var top T
	if last := len(s.laid) - 1; last >= 0 {
		top = s.laid[last]
		s.laid = s.laid[:last]
	}
	return top
}

// Height is how many lie on the stack.
func (s *Stack[T]) Height() int { return len(s.laid) }

// Clone shares nothing with the stack.
func (s *Stack[T]) Clone() Stack[T] { return Stack[T]{slices.Clone(s.laid)} }

// Same tells whether two stacks hold the same.
func Same[T comparable](a, b Stack[T]) bool { return slices.Equal(a.laid, b.laid) }
