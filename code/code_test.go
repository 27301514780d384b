package code

import (
	"math"
	"slices"
	"testing"

	"gavel/api"
	"gavel/values"
)

func TestInstructionsAreRead(t *testing.T) {
	b := "G\x02\x03" +
		"\x01\xff\xff\xff\xff\xff\xff\xff\xfe" + "\x05\x02" + "\x04\x08" +
		"\x0f\x00\x03" + "\x10\x00\x02" + "\x11\xff" + "\x12\x07" + "\x10\x01\x00" + "\x0f\x00\x01"
	want := []Instruction{
		{Op: api.PushInt, Number: -2, at: 3},
		{Op: api.Put, Number: 2, at: 12},
		{Op: api.Field, Number: 8, at: 14},
		{Op: api.JumpUnless, Number: 3, To: 5, at: 16},
		{Op: api.Jump, Number: 2, To: 6, at: 19},
		{Op: api.Allow, Number: 255, at: 22},
		{Op: api.Deny, Number: 7, at: 24},
		{Op: api.Jump, Number: 256, at: 26},
		{Op: api.JumpUnless, Number: 1, at: 29},
	}
	c, ok := Load(b)
	if !ok || c.Cells != 3 || c.depth != 2 || !slices.Equal(c.Instructions, want) {
		t.Errorf("Load = %+v, %v", c, ok)
	}
}

func TestNumbersAreOf64Bits(t *testing.T) {
	for b, want := range map[string]values.Value{
		"":                                 0,
		"\x80":                             128,
		"\x80\x01":                         32769,
		"\x00\x00\x00\x00\x00\x00\x01\x02": 258,
		"\xff\xff\xff\xff\xff\xff\xff\xff": -1,
		"\x80\x00\x00\x00\x00\x00\x00\x00": math.MinInt64,
		"\x7f\xff\xff\xff\xff\xff\xff\xff": math.MaxInt64,
	} {
		if got := number(b); got != want {
			t.Errorf("number(%q) = %d, want %d", b, got, want)
		}
	}
}

func TestNoCode(t *testing.T) {
	for _, b := range []string{"", "G\x00\x00", "G\x00\x00\x00", "G\x00\x00\x02\x01\x12\x00", "G\x19\x00\x12\x00"} {
		if c, ok := Load(b); c != nil || ok {
			t.Errorf("Load(%q) = %v, %v", b, c, ok)
		}
	}
}
