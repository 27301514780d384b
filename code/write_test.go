package code

import (
	"math"
	"testing"

	"gavel/api"
	"gavel/values"
)

func TestInstructionsAreWritten(t *testing.T) {
	list := []Instruction{
		{Op: api.PushInt, Number: -2},
		{Op: api.Put, Number: 2},
		{Op: api.Field, Number: 8},
		{Op: api.JumpUnless, To: 5},
		{Op: api.Jump, Number: 99, To: 6},
		{Op: api.Allow, Number: 255},
		{Op: api.Deny, Number: 7},
		{Op: api.Add},
	}
	want := "G\x02\x03" +
		"\x01\xff\xff\xff\xff\xff\xff\xff\xfe" + "\x05\x02" + "\x04\x08" +
		"\x0f\x00\x03" + "\x10\x00\x02" + "\x11\xff" + "\x12\x07" + "\x07"
	if b := Write(2, 3, list); b != want {
		t.Errorf("Write = %x, want %x", b, want)
	}
}

func TestJumpsAreWrittenFar(t *testing.T) {
	for idle := range 400 {
		list := []Instruction{{Op: api.Jump, To: idle + 1}}
		for range idle {
			list = append(list, Instruction{Op: api.PushInt, Number: math.MinInt64})
		}
		b := Write(0, 0, append(list, Instruction{Op: api.Deny}))
		if far := int(b[4])<<8 + int(b[5]); far != 9*idle || len(b) != 8+far {
			t.Errorf("over %d numbers the jump is %d far, of %d bytes", idle, far, len(b))
		}
	}
}

func TestNumbersAreWrittenAsTheyAreRead(t *testing.T) {
	for _, n := range []int64{0, 1, -1, 255, 256, -256, 0x0102030405060708, math.MaxInt64, math.MinInt64} {
		c, ok := Load(Write(1, 0, []Instruction{{Op: api.PushInt, Number: values.Value(n)}, {Op: api.Deny}}))
		if !ok || c.Instructions[0].Number != values.Value(n) {
			t.Errorf("%d is read as %+v, %v", n, c, ok)
		}
	}
}
