package build

import "slices"

// stack is a row to whose end things are put, and from whose end they are taken.
type stack[T any] struct{ row []T }

func (s *stack[T]) count() int { return len(s.row) }

func (s *stack[T]) push(one T) { s.row = append(s.row, one) }

// top answers the last one. There must be one.
func (s *stack[T]) top() T { return s.row[len(s.row)-1] }

// cut leaves the first ones, that many of them.
func (s *stack[T]) cut(count int) { s.row = s.row[:count] }

// find answers the place of the last one that is sought, or one below 0.
func (s *stack[T]) find(sought func(T) bool) int {
	for at, one := range slices.Backward(s.row) {
		if sought(one) {
			return at
		}
	}
	return -1
}
