package compiler

import (
	"gavel/api"
	"gavel/policy"
	"gavel/words"
)

// jumpIf adds what asks a condition: it jumps if the condition tells this, and
// goes on behind if not, with the stack as it was. It gives the jumps, which
// come nowhere yet.
func (l *layer) jumpIf(this bool, c *policy.Cond, beneath int) []int {
	if l.byJumps {
		switch c.Kind {
		case words.True, words.False:
			return l.jumpAtOnce(this == (c.Kind == words.True))
		case words.Not:
			return l.jumpIf(!this, c.Under[0], beneath)
		case words.And:
			return l.jumpJoined(this, false, c, beneath)
		case words.Or:
			return l.jumpJoined(this, true, c, beneath)
		case words.If:
			return l.jumpChosen(this, c, beneath)
		}
	}
	l.lay(c, beneath)
	if this {
		l.add(api.Not, 0)
	}
	return []int{l.add(api.JumpUnless, 0)}
}

func (l *layer) jumpAtOnce(does bool) []int {
	if !does {
		return nil
	}
	return []int{l.add(api.Jump, 0)}
}

// jumpJoined is for an and or an or, which its left side settles by telling
// this: then the right side isn't asked.
func (l *layer) jumpJoined(this, settles bool, c *policy.Cond, beneath int) []int {
	settled := l.jumpIf(settles, c.Under[0], beneath)
	jumps := l.jumpIf(this, c.Under[1], beneath)
	if this == settles {
		return append(settled, jumps...)
	}
	l.comeHere(settled...)
	return jumps
}

func (l *layer) jumpChosen(this bool, c *policy.Cond, beneath int) []int {
	otherwise := l.jumpIf(false, c.Under[0], beneath)
	jumps := l.jumpIf(this, c.Under[1], beneath)
	behind := l.add(api.Jump, 0)
	l.comeHere(otherwise...)
	jumps = append(jumps, l.jumpIf(this, c.Under[2], beneath)...)
	l.comeHere(behind)
	return jumps
}
