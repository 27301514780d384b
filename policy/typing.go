package policy

import (
	"slices"

	"gavel/types"
	"gavel/words"
)

// typed tells whether all conditions have the types that there must be; if
// not, where the first item is whose condition has not. Names must have been
// resolved.
func (p Policy) typed() (int, bool) {
	var lets []types.Type
	for _, it := range p {
		t := it.Cond.typeOf(lets)
		if t == types.Wrong || it.Kind != words.Let && t != types.Truth {
			return it.At, false
		}
		if it.Kind == words.Let {
			lets = append(lets, t)
		}
	}
	return 0, true
}

// typeOf is Wrong if a part of the condition finds another type than it wants.
func (c *Cond) typeOf(lets []types.Type) types.Type {
	if c.Kind == words.Own {
		return lets[c.Let]
	}
	if len(c.Under) == 0 {
		return typeOfWord(c.Kind)
	}
	under := make([]types.Type, len(c.Under))
	for i, u := range c.Under {
		under[i] = u.typeOf(lets)
	}
	if slices.Contains(under, types.Wrong) {
		return types.Wrong
	}
	return typeOver(c.Kind, under)
}

func typeOfWord(kind words.Kind) types.Type {
	if field, ok := kind.Field(); ok {
		return types.OfField(field)
	}
	if _, ok := kind.Member(); ok {
		return types.Member
	}
	switch kind {
	case words.Number:
		return types.Number
	case words.True, words.False:
		return types.Truth
	}
	return types.Wrong
}

// typeOver gives the type of a part that stands over parts of these types.
func typeOver(kind words.Kind, under []types.Type) types.Type {
	switch kind {
	case words.Plus, words.Minus:
		return ifAll(under, types.Number, types.Number)
	case words.Less, words.AtMost:
		return ifAll(under, types.Number, types.Truth)
	case words.Equal:
		return ifAll(under, under[0], types.Truth)
	case words.Or, words.And, words.Not:
		return ifAll(under, types.Truth, types.Truth)
	case words.If:
		if under[0] == types.Truth {
			return ifAll(under[1:], under[1], under[1])
		}
	}
	return types.Wrong
}

// ifAll gives a type if all the others are the wanted one.
func ifAll(under []types.Type, want, give types.Type) types.Type {
	for _, t := range under {
		if t != want {
			return types.Wrong
		}
	}
	return give
}
