// Package code reads the bytes of a code, and looks them through: what passes
// never goes wrong. It writes such bytes, too.
package code

import (
	"cmp"
	"slices"

	"gavel/api"
	"gavel/values"
)

const (
	sign   = 'G'
	header = 3 // the sign, the stack's depth, the number of cells
)

// Code is a code that may be one.
type Code struct {
	Cells        int
	Instructions []Instruction
	depth        int
}

// Instruction with what follows it.
type Instruction struct {
	Op     int          // by api's constants
	Number values.Value // what follows; of a jump, how many bytes are passed over
	To     int          // of a jump: the instruction it comes to; 0, if it comes to none, as nothing jumps back to the first
	at     int          // its first byte
}

// Load reads a code, if the bytes may be one.
func Load(b string) (*Code, bool) {
	c, ok := read(b)
	if !ok || !c.sound() {
		return nil, false
	}
	return c, true
}

// read settles all that does not hang on which ways the code goes.
func read(b string) (*Code, bool) {
	if len(b) > api.MaxCode || len(b) <= header || b[0] != sign || b[1] > api.MaxStack {
		return nil, false
	}
	c := &Code{depth: int(b[1]), Cells: int(b[2])}
	for at := header; at < len(b); {
		in := Instruction{Op: int(b[at]), at: at}
		end := at + in.size()
		if end > len(b) {
			return nil, false
		}
		in.Number = number(b[at+1 : end])
		if !c.mayBe(in) {
			return nil, false
		}
		c.Instructions = append(c.Instructions, in)
		at = end
	}
	c.findJumps()
	return c, true
}

// size is in bytes, with what follows.
func (in Instruction) size() int { return 1 + following(in.Op) }

func (in Instruction) jumps() bool { return in.Op == api.Jump || in.Op == api.JumpUnless }

// following is how many bytes follow an instruction.
func following(op int) int {
	switch op {
	case api.PushInt:
		return 8
	case api.JumpUnless, api.Jump:
		return 2
	case api.PushBool, api.PushMember, api.Field, api.Put, api.Get, api.Allow, api.Deny:
		return 1
	}
	return 0
}

// number has the greatest byte first. Eight bytes fill it, and so have their
// sign.
func number(b string) values.Value {
	var n values.Value
	for i := range len(b) {
		n = n<<8 | values.Value(b[i])
	}
	return n
}

// mayBe tells whether there is such an instruction, with such a number. Where
// jumps come to matters only if a way comes to them.
func (c *Code) mayBe(in Instruction) bool {
	switch in.Op {
	case api.PushBool:
		return in.Number <= values.True
	case api.PushMember:
		return in.Number <= api.Ban
	case api.Field:
		return in.Number <= api.FieldOpen
	case api.Put, api.Get:
		return int(in.Number) < c.Cells
	}
	return in.Op >= api.PushInt && in.Op <= api.Deny
}

func (c *Code) findJumps() {
	for i := range c.Instructions {
		in := &c.Instructions[i]
		if !in.jumps() {
			continue
		}
		if to, ok := c.beginning(in.at + in.size() + int(in.Number)); ok {
			in.To = to
		}
	}
}

// beginning finds the instruction that begins at a byte.
func (c *Code) beginning(at int) (int, bool) {
	return slices.BinarySearchFunc(c.Instructions, at, func(in Instruction, at int) int {
		return cmp.Compare(in.at, at)
	})
}
