package compiler

import (
	"gavel/policy"
	"gavel/words"
)

// rewriter goes through the items from the first on.
type rewriter struct {
	passes int
	lets   []*policy.Cond // what became of the lets so far
}

// rewrite gives a policy that means the same. Its items keep their numbers,
// though some may be missing.
func rewrite(p policy.Policy, passes int) policy.Policy {
	r := &rewriter{passes: passes}
	var kept policy.Policy
	for _, it := range p {
		it.Cond = r.condition(it.Cond)
		if it.Kind == words.Let {
			r.lets = append(r.lets, it.Cond)
		}
		if !r.inlined(it) {
			kept = append(kept, it)
		}
	}
	if r.does(Prune) {
		return asked(reached(kept))
	}
	return kept
}

func (r *rewriter) does(pass int) bool { return r.passes&pass != 0 }

// condition goes from the lowest parts up. Once is enough: no pass gives
// anything but a word or a part that has been rewritten before.
func (r *rewriter) condition(c *policy.Cond) *policy.Cond {
	c = &policy.Cond{Word: c.Word, Let: c.Let, Under: r.conditions(c.Under)}
	if r.does(Inline) {
		c = r.inline(c)
	}
	if r.does(Fold) {
		c = fold(c)
	}
	if r.does(Prune) {
		c = prune(c)
	}
	return c
}

func (r *rewriter) conditions(list []*policy.Cond) []*policy.Cond {
	var rewritten []*policy.Cond
	for _, c := range list {
		rewritten = append(rewritten, r.condition(c))
	}
	return rewritten
}

// inline gives what a name stands for, if that is a single word.
func (r *rewriter) inline(c *policy.Cond) *policy.Cond {
	if c.Kind == words.Own && len(r.lets[c.Let].Under) == 0 {
		return r.lets[c.Let]
	}
	return c
}

// inlined tells whether an item is a let whose name stands nowhere any more.
func (r *rewriter) inlined(it policy.Item) bool {
	return r.does(Inline) && it.Kind == words.Let && len(it.Cond.Under) == 0
}
