package values

import (
	"math"
	"math/big"
	"testing"

	"gavel/api"
)

// edges are in their order.
var edges = []Value{math.MinInt64, math.MinInt64 + 1, math.MinInt64/2 - 1, math.MinInt64 / 2, -2, -1, 0, 1, 2, math.MaxInt64 / 2, math.MaxInt64/2 + 1, math.MaxInt64 - 1, math.MaxInt64}

// kept brings a number without bounds within 64 bits.
func kept(n *big.Int) Value {
	switch {
	case n.IsInt64():
		return Value(n.Int64())
	case n.Sign() > 0:
		return math.MaxInt64
	}
	return math.MinInt64
}

func TestAddAndSubStayWithin(t *testing.T) {
	for _, a := range edges {
		for _, b := range edges {
			left, right := big.NewInt(int64(a)), big.NewInt(int64(b))
			if got, want := Add(a, b), kept(new(big.Int).Add(left, right)); got != want {
				t.Errorf("%d + %d = %d, want %d", a, b, got, want)
			}
			if got, want := Sub(a, b), kept(new(big.Int).Sub(left, right)); got != want {
				t.Errorf("%d - %d = %d, want %d", a, b, got, want)
			}
		}
	}
}

func TestComparing(t *testing.T) {
	for i, a := range edges {
		for k, b := range edges {
			before, same := Less(a, b), Equal(a, b)
			if before != Truth(i < k) || same != Truth(i == k) || AtMost(a, b) != Truth(i <= k) {
				t.Errorf("%d and %d: less %d, equal %d, at most %d", a, b, before, same, AtMost(a, b))
			}
		}
	}
}

func TestTruths(t *testing.T) {
	for _, a := range []bool{false, true} {
		if Not(Truth(a)) != Truth(!a) {
			t.Errorf("not %v is %d", a, Not(Truth(a)))
		}
		for _, b := range []bool{false, true} {
			if And(Truth(a), Truth(b)) != Truth(a && b) || Or(Truth(a), Truth(b)) != Truth(a || b) {
				t.Errorf("%v, %v: and %d, or %d", a, b, And(Truth(a), Truth(b)), Or(Truth(a), Truth(b)))
			}
		}
	}
}

func TestFields(t *testing.T) {
	s := api.State{
		Levels:  []api.Level{{User: "a", N: 50}, {User: "", N: -3}, {User: "a", N: 60}},
		Default: 7,
		Members: []api.Member{{User: "a", Is: api.Join}, {User: "b", Is: 5}, {User: "a", Is: api.Ban}, {User: "b", Is: api.Ban}, {User: "c", Is: -1}, {User: "d", Is: api.Ban}},
	}
	open := s
	open.Open = true
	for _, c := range []struct {
		e    api.Event
		s    api.State
		want Fields
	}{
		{api.Event{}, api.State{}, Fields{0, 0, 0, 0, 0, 0, 0, 1, 0}},
		{api.Event{Sender: "a", Target: "b", Wants: 3, Need: -9, When: math.MaxInt64}, s, Fields{50, 7, -9, math.MaxInt64, 2, 0, 3, 0, 0}},
		{api.Event{Sender: "b", Target: "a", Wants: 5, Need: math.MinInt64}, open, Fields{7, 50, math.MinInt64, 0, 0, 2, 0, 0, 1}},
		{api.Event{Sender: "c", Target: "c", Wants: 4}, open, Fields{7, 7, 0, 0, 0, 0, 4, 1, 1}},
		{api.Event{Sender: "", Target: "d", Wants: -1}, s, Fields{-3, 7, 0, 0, 0, 4, 0, 0, 0}},
	} {
		if got := FieldsOf(c.e, c.s); got != c.want {
			t.Errorf("%+v: %v, want %v", c.e, got, c.want)
		}
	}
}
