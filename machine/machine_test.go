package machine

import (
	"testing"

	"gavel/api"
	"gavel/code"
	"gavel/values"
)

func TestEachInstructionHasItsDoing(t *testing.T) {
	for op, do := range doings() {
		if (do != nil) != (op >= api.PushInt) {
			t.Errorf("instruction %d: something to do is %v", op, do != nil)
		}
	}
}

func TestJudgeCountsItsSteps(t *testing.T) {
	c, ok := code.Load("G\x02\x01" + "\x04\x00\x05\x00\x06\x00\x04\x01\x0a" + "\x0f\x00\x02\x11\x09\x12\x08")
	if !ok {
		t.Fatal("the code is none")
	}
	for fields, want := range map[values.Fields]api.Verdict{
		{api.FieldLevel: 1, api.FieldRank: 2}: {Allow: true, Rule: 9, Steps: 7},
		{api.FieldLevel: 2, api.FieldRank: 2}: {Rule: 8, Steps: 7},
	} {
		if v := Judge(c, fields); v != want {
			t.Errorf("of %v: %+v, want %+v", fields, v, want)
		}
	}
}
