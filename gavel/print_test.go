package gavel

import (
	"strings"
	"testing"

	"gavel/api"
)

func TestP4Plain(t *testing.T) {
	for _, c := range []struct{ text, plain string }{
		{"", ""},
		{" \n \n", ""},
		{"allow if sender = join and level < need + 1;", "allow if ((sender = join) and (level < (need + 1)));\n"},
		{"let op = 50 <= level; deny if target = ban; allow if op or self;", "let op = (50 <= level);\ndeny if (target = ban);\nallow if (op or self);\n"},
		{"allow\nif(self)or((open));", "allow if (self or open);\n"},
		{"let a=1+2-3+4;", "let a = (((1 + 2) - 3) + 4);\n"},
		{"let a=1-(2-(3-4));", "let a = (1 - (2 - (3 - 4)));\n"},
		{"let a=self or open or self and open and self;", "let a = ((self or open) or ((self and open) and self));\n"},
		{"let a=self and (open or self);", "let a = (self and (open or self));\n"},
		{"let a=not not self=open and not open;", "let a = ((not (not (self = open))) and (not open));\n"},
		{"let a=(not self)=open;", "let a = ((not self) = open);\n"},
		{"let a=if self then if open then 1 else 2 else if self then 3 else 4;", "let a = (if self then (if open then 1 else 2) else (if self then 3 else 4));\n"},
		{"let a=if self then self else self or open;", "let a = (if self then self else (self or open));\n"},
		{"let a=(if self then self else self)or open;", "let a = ((if self then self else self) or open);\n"},
		{"let a=007<0000;", "let a = (7 < 0);\n"},
		{"let a=0009223372036854775807;", "let a = 9223372036854775807;\n"},
		{"let a=1<=2;let b=1<2;let c=1=2;", "let a = (1 <= 2);\nlet b = (1 < 2);\nlet c = (1 = 2);\n"},
		{"let a=true=false;let b=none=invite;let c=join=leave;let d=ban;", "let a = (true = false);\nlet b = (none = invite);\nlet c = (join = leave);\nlet d = ban;\n"},
		{"let a=level+rank+need+when;let b=sender=target;let c=wants;let d=self=open;", "let a = (((level + rank) + need) + when);\nlet b = (sender = target);\nlet c = wants;\nlet d = (self = open);\n"},
	} {
		for _, text := range []string{c.text, c.plain} {
			if s, e, at := Print(text); s != c.plain || e != api.OK || at != 0 {
				t.Errorf("Print(%q) = %q, %d, %d, want %q", text, s, e, at, c.plain)
			}
		}
	}
}

// A plain form may be longer than a text may be.
func TestP4LongPlain(t *testing.T) {
	text, want := "", ""
	for _, name := range []string{"a", "b", "c", "d", "e"} {
		text += "let " + name + "=level" + strings.Repeat("-level", 18) + ";"
		want += "let " + name + " = " + strings.Repeat("(", 18) + "level" + strings.Repeat(" - level)", 18) + ";\n"
	}
	text += strings.Repeat("deny if self;", 15)
	want += strings.Repeat("deny if self;\n", 15)
	if len(text) > api.MaxText || len(want) <= api.MaxText {
		t.Fatalf("the text has %d bytes, its plain form %d", len(text), len(want))
	}
	if s, e, at := Print(text); s != want || e != api.OK || at != 0 {
		t.Errorf("Print = %q, %d, %d", s, e, at)
	}
}

// What was asked before, or is asked at the same time, changes no answer.
func TestP2NothingKept(t *testing.T) {
	event, room := api.Event{Sender: "ann", Target: "ann"}, hall()
	texts := []string{"let a = 1; allow if a = 1;", "let a = 2; allow if a = 1;", "allow if a;", "allow if self", "$", "let b = self; deny if b;", ""}
	type answer struct {
		s  string
		e  api.Errno
		at int
		v  api.Verdict
		b  [16]string
	}
	ask := func(text string) answer {
		s, e, at := Print(text)
		if e2, at2 := Check(text); e2 != e || at2 != at {
			t.Errorf("Check(%q) = %d, %d, Print has %d, %d", text, e2, at2, e, at)
		}
		v, e2 := Mean(text, event, room)
		if e2 != e {
			t.Errorf("Mean(%q) has the error %d, Print %d", text, e2, e)
		}
		a := answer{s: s, e: e, at: at, v: v}
		for passes := range a.b {
			a.b[passes], _, _ = Compile(text, passes)
		}
		return a
	}
	var first []answer
	for _, text := range texts {
		first = append(first, ask(text))
	}
	done := make(chan bool)
	for range 8 {
		go func() {
			for i := range 100 * len(texts) {
				k := i * 5 % len(texts)
				if got := ask(texts[k]); got != first[k] {
					t.Errorf("Print(%q) = %v, then %v", texts[k], first[k], got)
				}
			}
			done <- true
		}()
	}
	for range 8 {
		<-done
	}
}
