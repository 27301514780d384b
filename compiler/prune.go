package compiler

import (
	"slices"

	"gavel/api"
	"gavel/policy"
	"gavel/words"
)

// prune leaves out of a part what can't change what it tells.
func prune(c *policy.Cond) *policy.Cond {
	switch c.Kind {
	case words.Not:
		if c.Under[0].Kind == words.Not {
			return c.Under[0].Under[0]
		}
	case words.And:
		return decided(c, words.False, words.True)
	case words.Or:
		return decided(c, words.True, words.False)
	}
	return c
}

// decided gives the one side that counts of an and or an or: the side that
// settles it, or the one that is beside an idle one.
func decided(c *policy.Cond, settles, idle words.Kind) *policy.Cond {
	left, right := c.Under[0], c.Under[1]
	switch {
	case left.Kind == settles || right.Kind == idle:
		return left
	case right.Kind == settles || left.Kind == idle:
		return right
	}
	return c
}

// reached leaves out rules that are never true, and what stands behind one
// that always is.
func reached(p policy.Policy) policy.Policy {
	var kept policy.Policy
	for _, it := range p {
		isRule := it.Kind != words.Let
		if isRule && it.Cond.Kind == words.False {
			continue
		}
		kept = append(kept, it)
		if isRule && it.Cond.Kind == words.True {
			break
		}
	}
	return kept
}

// asked leaves out lets whose names no item behind asks for. It goes from the
// last item on, so that names which only such lets ask for are not asked.
func asked(p policy.Policy) policy.Policy {
	var names [api.MaxLets]bool
	var kept policy.Policy
	for i := len(p) - 1; i >= 0; i-- {
		if p[i].Kind == words.Let && !names[p[i].Which] {
			continue
		}
		noteNames(p[i].Cond, &names)
		kept = append(kept, p[i])
	}
	slices.Reverse(kept)
	return kept
}

func noteNames(c *policy.Cond, names *[api.MaxLets]bool) {
	if c.Kind == words.Own {
		names[c.Let] = true
	}
	for _, under := range c.Under {
		noteNames(under, names)
	}
}
