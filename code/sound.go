package code

import (
	"gavel/api"
	"gavel/known"
	"gavel/types"
)

// effect is what an instruction does to the stack: how many it takes off, all
// of which type, and what it lays.
type effect struct {
	takes int
	of    types.Type
	lays  types.Type
}

// effects are those of the instructions that do the same wherever they stand.
var effects = [api.Deny + 1]effect{
	api.PushInt:    {lays: types.Number},
	api.PushBool:   {lays: types.Truth},
	api.PushMember: {lays: types.Member},
	api.Add:        {2, types.Number, types.Number},
	api.Sub:        {2, types.Number, types.Number},
	api.Less:       {2, types.Number, types.Truth},
	api.AtMost:     {2, types.Number, types.Truth},
	api.Not:        {1, types.Truth, types.Truth},
	api.And:        {2, types.Truth, types.Truth},
	api.Or:         {2, types.Truth, types.Truth},
	api.JumpUnless: {takes: 1, of: types.Truth},
}

// kinds is what is known of types at a place.
type kinds = known.Set[types.Type]

// sound goes through the instructions that ways come to. One time is enough:
// as all jumps go on, every way to an instruction has been gone before it.
func (c *Code) sound() bool {
	come := make([]*kinds, len(c.Instructions))
	come[0] = &kinds{}
	for i, in := range c.Instructions {
		here := come[i]
		if here == nil {
			continue
		}
		if !in.change(here) || here.Height() > c.depth {
			return false
		}
		for _, to := range in.goesOn(i) {
			if !comeTo(come, to, here) {
				return false
			}
		}
	}
	return true
}

// change does to the types what the instruction will do to values. It fails if
// it finds not what it wants.
func (in Instruction) change(here *kinds) bool {
	switch in.Op {
	case api.Field:
		here.Push(types.OfField(int(in.Number)))
	case api.Put:
		t := here.Pop()
		here.Learn(int(in.Number), t)
		return t != types.Wrong
	case api.Get:
		t := here.Of(int(in.Number))
		here.Push(t)
		return t != types.Wrong
	case api.Equal:
		right, left := here.Pop(), here.Pop()
		here.Push(types.Truth)
		return left == right && left != types.Wrong
	default:
		return effects[in.Op].on(here)
	}
	return true
}

func (f effect) on(here *kinds) bool {
	for range f.takes {
		if here.Pop() != f.of {
			return false
		}
	}
	if f.lays != types.Wrong {
		here.Push(f.lays)
	}
	return true
}

// goesOn tells which instructions may come next.
func (in Instruction) goesOn(i int) []int {
	switch in.Op {
	case api.Allow, api.Deny:
		return nil
	case api.Jump:
		return []int{in.To}
	case api.JumpUnless:
		return []int{i + 1, in.To}
	}
	return []int{i + 1}
}

// comeTo brings what is known on a way to the instruction it comes to. It fails
// if there is none, or if another way came there with another stack.
func comeTo(come []*kinds, to int, here *kinds) bool {
	if to == 0 || to == len(come) {
		return false
	}
	if come[to] == nil {
		come[to] = here.Clone()
		return true
	}
	return come[to].Meet(here)
}
