package compiler

import (
	"gavel/policy"
	"gavel/values"
	"gavel/words"
)

// fold tells a part at once, if it is the same of every event, and takes the
// side of an if that is the same. The parts under it must have been folded.
func fold(c *policy.Cond) *policy.Cond {
	if c.Kind == words.If {
		return chosen(c)
	}
	told, fixed := c.Fixed()
	if !fixed || len(c.Under) == 0 {
		return c
	}
	if c.Kind == words.Plus || c.Kind == words.Minus {
		return &policy.Cond{Word: words.Word{Kind: words.Number, Number: int64(told)}}
	}
	if told == values.True {
		return &policy.Cond{Word: words.Word{Kind: words.True}}
	}
	return &policy.Cond{Word: words.Word{Kind: words.False}}
}

func chosen(c *policy.Cond) *policy.Cond {
	switch c.Under[0].Kind {
	case words.True:
		return c.Under[1]
	case words.False:
		return c.Under[2]
	}
	return c
}
