package stack

import "testing"

func TestLastLaidIsFirstTaken(t *testing.T) {
	var s Stack[string]
	if s.Height() != 0 || s.Pop() != "" || s.Height() != 0 {
		t.Errorf("an empty stack has the height %d", s.Height())
	}
	s.Push("a")
	s.Push("b")
	if s.Height() != 2 || s.Pop() != "b" || s.Height() != 1 {
		t.Errorf("the height is %d", s.Height())
	}
	s.Push("c")
	if s.Pop() != "c" || s.Pop() != "a" || s.Pop() != "" {
		t.Error("what was laid comes in another order")
	}
}

func TestCloneIsApart(t *testing.T) {
	var s Stack[int]
	s.Push(1)
	s.Push(2)
	c := s.Clone()
	s.Pop()
	s.Push(3)
	if top := c.Pop(); top != 2 {
		t.Errorf("the clone has %d on top", top)
	}
	c.Push(4)
	if top := s.Pop(); top != 3 {
		t.Errorf("the stack has %d on top", top)
	}
}

func TestSame(t *testing.T) {
	of := func(laid ...int) (s Stack[int]) {
		for _, one := range laid {
			s.Push(one)
		}
		return s
	}
	popped := of(1, 2, 3)
	popped.Pop()
	for _, c := range []struct {
		a, b Stack[int]
		want bool
	}{
		{of(), of(), true}, {of(1, 2), of(1, 2), true}, {of(1, 2), popped, true},
		{of(), of(0), false}, {of(1), of(1, 2), false}, {of(1, 2), of(2, 1), false}, {of(1, 2), of(1, 3), false},
	} {
		if Same(c.a, c.b) != c.want || Same(c.b, c.a) != c.want {
			t.Errorf("%v and %v are the same: %v", c.a, c.b, !c.want)
		}
	}
}
