package policy

import (
	"gavel/api"
	"gavel/words"
)

// fit tells whether all items keep to the limits; if not, where the first one
// is that goes beyond.
func (p Policy) fit() (int, bool) {
	lets, rules, parts := 0, 0, 0
	for _, it := range p {
		if it.Kind == words.Let {
			lets++
		} else {
			rules++
		}
		parts += it.Cond.parts()
		if lets > api.MaxLets || rules > api.MaxRules || parts > api.MaxParts || it.Cond.depth() > api.MaxDepth {
			return it.At, false
		}
	}
	return 0, true
}

func (c *Cond) parts() int {
	n := 1
	for _, under := range c.Under {
		n += under.parts()
	}
	return n
}

func (c *Cond) depth() int {
	deepest := 0
	for _, under := range c.Under {
		deepest = max(deepest, under.depth())
	}
	return 1 + deepest
}
