// Package known has the set of what is known at a place of a code.
package known

import (
	"slices"

	"gavel/stack"
)

// Set is what is known of each that lies on the stack, and of cells. The zero
// of T says that nothing is known of a cell; the zero of a Set is what is known
// at the beginning: an empty stack, and no cell.
type Set[T comparable] struct {
	stack.Stack[T]
	cells []T // only as far as something was learnt
}

// Learn takes in what is known of a cell from now on.
func (s *Set[T]) Learn(cell int, what T) {
	if missing := cell + 1 - len(s.cells); missing > 0 {
		s.cells = append(s.cells, make([]T, missing)...)
	}
	s.cells[cell] = what
}

// Of is what is known of a cell.
func (s *Set[T]) Of(cell int) T {
	var nothing T
	if cell >= len(s.cells) {
		return nothing
	}
	return s.cells[cell]
}

// Clone shares nothing with the set.
func (s *Set[T]) Clone() *Set[T] {
	return &Set[T]{s.Stack.Clone(), slices.Clone(s.cells)}
}

// Meet leaves what is known on this way and on another that comes to the same
// place. It fails if their stacks differ: these can't come to one place.
func (s *Set[T]) Meet(other *Set[T]) bool {
	var nothing T
	for cell, what := range s.cells {
		if what != other.Of(cell) {
			s.cells[cell] = nothing
		}
	}
	return stack.Same(s.Stack, other.Stack)
}
