// Package gavel: rules of who may do what, checked, compiled to a code without loops, and judged by it: see DOC.md.
package gavel

import (
	"gavel/api"
	"gavel/code"
	"gavel/compiler"
	"gavel/machine"
	"gavel/policy"
	"gavel/values"
)

// Check tells whether a text is a policy (P3).
func Check(text string) (api.Errno, int) {
	_, e, at := policy.Read(text)
	return e, at
}

// Print writes a policy in its plain form (P4).
func Print(text string) (string, api.Errno, int) {
	p, e, at := policy.Read(text)
	if e != api.OK {
		return "", e, at
	}
	return p.Plain(), api.OK, 0
}

// Mean tells what a policy says of an event (P5).
func Mean(text string, e api.Event, s api.State) (api.Verdict, api.Errno) {
	p, wrong, _ := policy.Read(text)
	if wrong != api.OK {
		return api.Verdict{}, wrong
	}
	return p.Mean(values.FieldsOf(e, s)), api.OK
}

// Code is a code that was looked through.
type Code struct {
	loaded *code.Code
}

// Load looks a code through (P6).
func Load(b string) (*Code, api.Errno) {
	c, ok := code.Load(b)
	if !ok {
		return nil, api.ErrCode
	}
	return &Code{c}, api.OK
}

// Judge tells what a code says of an event (P7). One that Load did not give
// says nothing.
func (c *Code) Judge(e api.Event, s api.State) api.Verdict {
	if c == nil || c.loaded == nil {
		return api.Verdict{}
	}
	return machine.Judge(c.loaded, values.FieldsOf(e, s))
}

// Compile makes a code of a policy (P8).
func Compile(text string, passes int) (string, api.Errno, int) {
	p, e, at := policy.Read(text)
	if e != api.OK {
		return "", e, at
	}
	return compiler.Compile(p, passes), api.OK, 0
}
