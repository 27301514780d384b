// Package values has what conditions tell: numbers, truths and members, what
// can be done with them, and the fields of an event.
package values

import "math"

// Value is a number, a truth (False or True) or a member's number. Of which
// type it is, it does not say: that is settled before there are values.
type Value int64

const (
	False Value = iota
	True
)

// Truth is the value of a bool.
func Truth(is bool) Value {
	if is {
		return True
	}
	return False
}

// Add stays within 64 bits: a sum that left them has wrapped round to the sign
// that neither side has.
func Add(left, right Value) Value {
	sum := left + right
	switch {
	case left >= 0 && right >= 0 && sum < 0:
		return math.MaxInt64
	case left < 0 && right < 0 && sum >= 0:
		return math.MinInt64
	}
	return sum
}

// Sub stays within 64 bits, likewise. It does not add the right side with the
// other sign, as the least number has none.
func Sub(left, right Value) Value {
	rest := left - right
	switch {
	case left >= 0 && right < 0 && rest < 0:
		return math.MaxInt64
	case left < 0 && right >= 0 && rest >= 0:
		return math.MinInt64
	}
	return rest
}

// Equal holds two of one type against each other.
func Equal(left, right Value) Value { return Truth(left == right) }

// Less is of two numbers.
func Less(left, right Value) Value { return Truth(left < right) }

// AtMost is of two numbers.
func AtMost(left, right Value) Value { return Truth(left <= right) }

// Not is of a truth.
func Not(one Value) Value { return Truth(one == False) }

// And is of two truths.
func And(left, right Value) Value { return Truth(left == True && right == True) }

// Or is of two truths.
func Or(left, right Value) Value { return Truth(left == True || right == True) }
