package compiler

import (
	"gavel/api"
	"gavel/code"
	"gavel/policy"
	"gavel/values"
	"gavel/words"
)

// layer lays instructions one behind the other.
type layer struct {
	byJumps      bool
	list         []code.Instruction
	depth, cells int // as many as the instructions so far need
}

// add gives the place of what it adds.
func (l *layer) add(op int, number values.Value) int {
	l.list = append(l.list, code.Instruction{Op: op, Number: number})
	return len(l.list) - 1
}

// comeHere makes jumps come to the instruction that is added next.
func (l *layer) comeHere(jumps ...int) {
	for _, jump := range jumps {
		l.list[jump].To = len(l.list)
	}
}

func (l *layer) item(it policy.Item) {
	if it.Kind == words.Let {
		l.lay(it.Cond, 0)
		l.add(api.Put, values.Value(it.Which))
		l.cells = it.Which + 1
		return
	}
	otherwise := l.jumpIf(false, it.Cond, 0)
	l.add(verdict(it.Kind), values.Value(it.Which))
	l.comeHere(otherwise...)
}

func verdict(kind words.Kind) int {
	if kind == words.Allow {
		return api.Allow
	}
	return api.Deny
}

// lay adds what lays on the stack what the condition tells; so many lie
// beneath it.
func (l *layer) lay(c *policy.Cond, beneath int) {
	switch c.Kind {
	case words.If:
		l.layChosen(c, beneath)
		return
	case words.Not:
		l.lay(c.Under[0], beneath)
		l.add(api.Not, 0)
		return
	}
	if len(c.Under) == 2 {
		l.lay(c.Under[0], beneath)
		l.lay(c.Under[1], beneath+1)
		l.add(over(c.Kind), 0)
		return
	}
	l.layWord(c)
	l.depth = max(l.depth, beneath+1)
}

func (l *layer) layChosen(c *policy.Cond, beneath int) {
	otherwise := l.jumpIf(false, c.Under[0], beneath)
	l.lay(c.Under[1], beneath)
	behind := l.add(api.Jump, 0)
	l.comeHere(otherwise...)
	l.lay(c.Under[2], beneath)
	l.comeHere(behind)
}

// over is the instruction for a part that stands over two others.
func over(kind words.Kind) int {
	switch kind {
	case words.Plus:
		return api.Add
	case words.Minus:
		return api.Sub
	case words.Equal:
		return api.Equal
	case words.Less:
		return api.Less
	case words.AtMost:
		return api.AtMost
	case words.And:
		return api.And
	}
	return api.Or
}

func (l *layer) layWord(c *policy.Cond) {
	if field, ok := c.Kind.Field(); ok {
		l.add(api.Field, values.Value(field))
		return
	}
	if member, ok := c.Kind.Member(); ok {
		l.add(api.PushMember, values.Value(member))
		return
	}
	switch c.Kind {
	case words.Number:
		l.add(api.PushInt, values.Value(c.Number))
	case words.Own:
		l.add(api.Get, values.Value(c.Let))
	default:
		l.add(api.PushBool, values.Truth(c.Kind == words.True))
	}
}
