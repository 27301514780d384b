// Package policy reads the text of a policy, checks it, writes it in its plain
// form, and tells what it says of an event.
package policy

import (
	"gavel/api"
	"gavel/words"
)

// Policy is a list of items, in the order of the text.
type Policy []Item

// Item is a let or a rule; its word is Let, Allow or Deny.
type Item struct {
	words.Word
	Given words.Word // the name that a let gives
	Which int        // of a let: which of them, from 0 on; of a rule: its number, from 1 on
	Cond  *Cond
}

// Cond is a condition: the word that makes its uppermost part (of an if then
// else: the if), and the parts under that one, from left to right. Brackets
// leave no trace.
type Cond struct {
	words.Word
	Under []*Cond
	Let   int // of an own name: which let gave it, from 0 on
}

// Read gives the policy that a text is; or an error and its place.
func Read(text string) (Policy, api.Errno, int) {
	if len(text) > api.MaxText {
		return nil, api.ErrLong, 0
	}
	list, at, ok := words.Split(text)
	if !ok {
		return nil, api.ErrWord, at
	}
	p, at, ok := parse(list)
	if !ok {
		return nil, api.ErrForm, at
	}
	if at, ok := p.fit(); !ok {
		return nil, api.ErrMany, at
	}
	if at, ok := p.resolve(); !ok {
		return nil, api.ErrName, at
	}
	if at, ok := p.typed(); !ok {
		return nil, api.ErrType, at
	}
	return p, api.OK, 0
}
