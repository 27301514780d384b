// Package machine does what a code says.
package machine

import (
	"gavel/api"
	"gavel/code"
	"gavel/stack"
	"gavel/values"
)

// machine judges one event.
type machine struct {
	stack.Stack[values.Value]
	cells   []values.Value
	fields  values.Fields
	next    int // the instruction that comes next
	ended   bool
	verdict api.Verdict
}

// Judge tells what a code says of an event that has these fields. It asks
// nothing of what it finds on the stack, as the code was looked through.
func Judge(c *code.Code, fields values.Fields) api.Verdict {
	m := &machine{cells: make([]values.Value, c.Cells), fields: fields}
	does := doings()
	for !m.ended {
		in := c.Instructions[m.next]
		m.next++
		m.verdict.Steps++
		does[in.Op](m, in)
	}
	return m.verdict
}

// doings has what the machine does for each instruction.
func doings() [api.Deny + 1]func(*machine, code.Instruction) {
	return [...]func(*machine, code.Instruction){
		api.PushInt:    (*machine).lay,
		api.PushBool:   (*machine).lay,
		api.PushMember: (*machine).lay,
		api.Field:      (*machine).layField,
		api.Put:        (*machine).put,
		api.Get:        (*machine).get,
		api.Add:        (*machine).add,
		api.Sub:        (*machine).sub,
		api.Equal:      (*machine).equal,
		api.Less:       (*machine).less,
		api.AtMost:     (*machine).atMost,
		api.Not:        (*machine).not,
		api.And:        (*machine).and,
		api.Or:         (*machine).or,
		api.JumpUnless: (*machine).jumpUnless,
		api.Jump:       (*machine).jump,
		api.Allow:      (*machine).allow,
		api.Deny:       (*machine).deny,
	}
}

func (m *machine) lay(in code.Instruction)      { m.Push(in.Number) }
func (m *machine) layField(in code.Instruction) { m.Push(m.fields[in.Number]) }
func (m *machine) put(in code.Instruction)      { m.cells[in.Number] = m.Pop() }
func (m *machine) get(in code.Instruction)      { m.Push(m.cells[in.Number]) }

func (m *machine) add(code.Instruction)    { m.two(values.Add) }
func (m *machine) sub(code.Instruction)    { m.two(values.Sub) }
func (m *machine) equal(code.Instruction)  { m.two(values.Equal) }
func (m *machine) less(code.Instruction)   { m.two(values.Less) }
func (m *machine) atMost(code.Instruction) { m.two(values.AtMost) }
func (m *machine) and(code.Instruction)    { m.two(values.And) }
func (m *machine) or(code.Instruction)     { m.two(values.Or) }
func (m *machine) not(code.Instruction)    { m.Push(values.Not(m.Pop())) }

// two takes the right one off first: it was laid last.
func (m *machine) two(tell func(left, right values.Value) values.Value) {
	right, left := m.Pop(), m.Pop()
	m.Push(tell(left, right))
}

func (m *machine) jump(in code.Instruction) { m.next = in.To }

func (m *machine) jumpUnless(in code.Instruction) {
	if m.Pop() == values.False {
		m.jump(in)
	}
}

func (m *machine) allow(in code.Instruction) { m.end(true, in) }
func (m *machine) deny(in code.Instruction)  { m.end(false, in) }

func (m *machine) end(allow bool, in code.Instruction) {
	m.verdict.Allow, m.verdict.Rule = allow, int(in.Number)
	m.ended = true
}
