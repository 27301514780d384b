// Package compiler makes a code of a policy.
package compiler

import (
	"gavel/api"
	"gavel/code"
	"gavel/policy"
)

// The passes, each a bit of a number. Other bits stand for nothing.
const (
	Inline = 1 << iota // a let of a single word is none: the word stands for its name
	Fold               // what is the same of every event is told at once
	Prune              // what can't matter falls away
	Jumps              // conditions are asked by jumps, and only as far as it takes
)

// Compile gives the bytes of a code that says of each event what the policy
// means. The passes change which code it is, not what it says.
func Compile(p policy.Policy, passes int) string {
	l := &layer{byJumps: passes&Jumps != 0}
	for _, it := range rewrite(p, passes) {
		l.item(it)
	}
	l.add(api.Deny, 0)
	return code.Write(l.depth, l.cells, l.list)
}
