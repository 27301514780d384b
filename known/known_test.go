package known

import "testing"

func TestCells(t *testing.T) {
	var s Set[string]
	if s.Of(0) != "" || s.Of(254) != "" {
		t.Error("something is known at the beginning")
	}
	s.Learn(2, "a")
	s.Learn(1, "b")
	s.Learn(2, "c")
	for cell, want := range []string{"", "b", "c", "", ""} {
		if got := s.Of(cell); got != want {
			t.Errorf("of cell %d %q is known, want %q", cell, got, want)
		}
	}
}

func TestMeetLeavesWhatBothKnow(t *testing.T) {
	short, long := &Set[int]{}, &Set[int]{}
	for cell, what := range []int{1, 2, 0, 4, 5} {
		long.Learn(cell, what)
	}
	for cell, what := range []int{1, 3, 7, 4} {
		short.Learn(cell, what)
	}
	before := long.Clone()
	if !long.Meet(short) || !short.Meet(before) {
		t.Error("two with empty stacks do not meet")
	}
	for cell, want := range []int{1, 0, 0, 4, 0, 0} {
		if long.Of(cell) != want || short.Of(cell) != want {
			t.Errorf("of cell %d %d and %d are known, want %d", cell, long.Of(cell), short.Of(cell), want)
		}
	}
	if before.Of(4) != 5 || before.Of(1) != 2 {
		t.Error("the clone, or the other one, has changed")
	}
}

func TestMeetWantsOneStack(t *testing.T) {
	a, b := &Set[int]{}, &Set[int]{}
	a.Push(1)
	if a.Meet(b) || b.Meet(a) {
		t.Error("stacks of two heights meet")
	}
	b.Push(2)
	if a.Meet(b) {
		t.Error("stacks of two kinds meet")
	}
	b.Pop()
	b.Push(1)
	if !a.Meet(b) || a.Height() != 1 || a.Pop() != 1 {
		t.Error("two of one stack do not meet, or lose it")
	}
}
