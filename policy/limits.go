package policy

import (
	"gavel/api"
	"gavel/words"
)

// fit tells whether all items keep to the limits; if not, where the first one
// is that goes beyond.
func (p Policy) fit() (int, bool) {
	parts := 0
	for _, it := range p {
		parts += it.Cond.parts()
		if it.beyond() || parts > api.MaxParts || it.Cond.depth() > api.MaxDepth {
			return it.At, false
		}
	}
	return 0, true
}

// beyond tells whether there are too many of its kind with this item.
func (it Item) beyond() bool {
	if it.Kind == words.Let {
		return it.Which >= api.MaxLets
	}
	return it.Which > api.MaxRules
}

func (c *Cond) parts() int {
	n := 1
	for _, under := range c.Under {
		n += under.parts()
	}
	return n
}

func (c *Cond) depth() int {
	deepest := 0
	for _, under := range c.Under {
		deepest = max(deepest, under.depth())
	}
	return 1 + deepest
}
