package compiler

import (
	"strings"
	"testing"

	"gavel/api"
	"gavel/policy"
)

func read(t *testing.T, text string) policy.Policy {
	t.Helper()
	p, e, at := policy.Read(text)
	if e != api.OK {
		t.Fatalf("Read(%q): %d at %d", text, e, at)
	}
	return p
}

func TestPassesAreTheLowestBits(t *testing.T) {
	if Inline|Fold|Prune|Jumps != 15 {
		t.Errorf("the passes are %d, %d, %d, %d", Inline, Fold, Prune, Jumps)
	}
}

// What is left of a policy is told by its plain form.
func TestRewrite(t *testing.T) {
	for _, c := range []struct {
		passes     int
		text, want string
	}{
		{Jumps, "let a = 1; let b = true and not not (1 < 2); deny if false; allow if true; deny if self;", "let a = 1;\nlet b = (true and (not (not (1 < 2))));\ndeny if false;\nallow if true;\ndeny if self;\n"},

		{Inline, "let a = level; allow if a < a + 1;", "allow if (level < (level + 1));\n"},
		{Inline, "let a = 5; let b = a; let c = b + 1; allow if c = b;", "let c = (5 + 1);\nallow if (c = 5);\n"},
		{Inline, "let a = not self; let b = a; allow if b or a;", "let a = (not self);\nallow if (a or a);\n"},
		{Inline, "let a = ban; let b = true; deny if (wants = a) = b; let c = 1; deny if c < 1 + 2;", "deny if ((wants = ban) = true);\ndeny if (1 < (1 + 2));\n"},

		{Fold, "let a = 1 + 2 - 7; allow if a < 0;", "let a = -4;\nallow if (a < 0);\n"},
		{Fold, "let a = 9223372036854775807 + 1; let b = 0 - 9223372036854775807 - 1 - 1;", "let a = 9223372036854775807;\nlet b = -9223372036854775808;\n"},
		{Fold, "deny if 1 < 1; deny if 1 <= 1; deny if ban = join; deny if true = true; deny if not false; deny if true and false; deny if true or false;", "deny if false;\ndeny if true;\ndeny if false;\ndeny if true;\ndeny if true;\ndeny if false;\ndeny if true;\n"},
		{Fold, "let a = level + 1 + 2; let b = level + (1 + 2); let c = 1 + 2 + level;", "let a = ((level + 1) + 2);\nlet b = (level + 3);\nlet c = (3 + level);\n"},
		{Fold, "let a = if 1 < 2 then level else rank; let b = if not true then join else sender; let c = if self then 1 + 1 else 2;", "let a = level;\nlet b = sender;\nlet c = (if self then 2 else 2);\n"},
		{Fold, "let a = (if true then 1 else level) + 1; deny if self and (true or false) = true;", "let a = 2;\ndeny if (self and true);\n"},
		{Fold, "let a = 1; allow if a = 1 or true;", "let a = 1;\nallow if ((a = 1) or true);\n"},

		{Prune, "deny if self and true; deny if true and self; deny if self or false; deny if false or self;", "deny if self;\ndeny if self;\ndeny if self;\ndeny if self;\n"},
		{Prune, "deny if self and false; deny if false and self; deny if open; allow if self or true; deny if open;", "deny if open;\nallow if true;\n"},
		{Prune, "allow if true or self; deny if open;", "allow if true;\n"},
		{Prune, "deny if not not self; deny if not not not self; deny if not not not not self;", "deny if self;\ndeny if (not self);\ndeny if self;\n"},
		{Prune, "deny if not true; allow if 1 < 2; deny if self;", "deny if (not true);\nallow if (1 < 2);\ndeny if self;\n"},
		{Prune, "let a = 1; let b = a + level; let c = b; deny if self;", "deny if self;\n"},
		{Prune, "let a = 1; let b = a + level; let c = b; deny if b = 2; let d = 3;", "let a = 1;\nlet b = (a + level);\ndeny if (b = 2);\n"},
		{Prune, "let a = true; let b = false; deny if a and b; let c = true; allow if c;", "let a = true;\nlet b = false;\ndeny if (a and b);\nlet c = true;\nallow if c;\n"},
		{Prune, "let a = self; deny if a and false; let b = true; allow if true; allow if b;", "allow if true;\n"},

		{Inline | Fold, "let a = 1; let b = a + 1; allow if b = 2; deny if self;", "allow if true;\ndeny if self;\n"},
		{Fold | Prune, "deny if 1 < 1; allow if 1 < 2 and (self or not true); deny if 1 = 1; let a = 1; deny if a = 1;", "allow if self;\ndeny if true;\n"},
		{Fold | Prune, "let a = if self and (1 = 2) then 1 else 2 + 3; allow if a = 5;", "let a = 5;\nallow if (a = 5);\n"},
		{15, "let a = if self and (1 = 2) then 1 else 2 + 3; let b = rank; deny if a = 4; allow if a = b; deny if self or a = 5; allow if open;", "allow if (5 = rank);\ndeny if true;\n"},
	} {
		if got := rewrite(read(t, c.text), c.passes).Plain(); got != c.want {
			t.Errorf("%q with the passes %d:\n%swant\n%s", c.text, c.passes, got, c.want)
		}
	}
}

func TestRewriteLeavesThePolicy(t *testing.T) {
	p := read(t, "let a = 1; let b = a + 2; deny if not not (b = 3); allow if true and self;")
	before := p.Plain()
	for passes := range 16 {
		Compile(p, passes)
	}
	if p.Plain() != before {
		t.Errorf("the policy has become\n%s", p.Plain())
	}
}

func TestItemsKeepTheirNumbers(t *testing.T) {
	p := rewrite(read(t, "let a = 1; deny if false; let b = level + a; allow if b = 2; deny if false; deny if self;"), 15)
	if len(p) != 3 || p[0].Which != 1 || p[1].Which != 2 || p[2].Which != 4 || p[1].Cond.Under[0].Let != 1 {
		t.Errorf("what is left is %+v", p)
	}
}

// Instructions that codes are held against.
const (
	one    = "\x01\x00\x00\x00\x00\x00\x00\x00\x01"
	two    = "\x01\x00\x00\x00\x00\x00\x00\x00\x02"
	yes    = "\x02\x01"
	level  = "\x04\x00"
	rank   = "\x04\x01"
	need   = "\x04\x02"
	sender = "\x04\x04"
	self   = "\x04\x07"
	open   = "\x04\x08"
	not    = "\x0c"
	last   = "\x12\x00"
)

func unless(far byte) string { return "\x0f\x00" + string([]byte{far}) }
func jump(far byte) string   { return "\x10\x00" + string([]byte{far}) }

func TestCodes(t *testing.T) {
	for _, c := range []struct {
		passes int
		text   string
		want   string
	}{
		{0, "", "G\x00\x00" + last},
		{15, "", "G\x00\x00" + last},
		{0, "allow if self;", "G\x01\x00" + self + unless(2) + "\x11\x01" + last},
		{0, "deny if not self;", "G\x01\x00" + self + not + unless(2) + "\x12\x01" + last},
		{0, "allow if level < need + 1 - 2;", "G\x03\x00" + level + need + one + "\x07" + two + "\x08\x0a" + unless(2) + "\x11\x01" + last},
		{0, "allow if level <= 1; deny if sender = ban;", "G\x02\x00" + level + one + "\x0b" + unless(2) + "\x11\x01" + sender + "\x03\x04\x09" + unless(2) + "\x12\x02" + last},
		{0, "allow if self and open or true;", "G\x02\x00" + self + open + "\x0d" + yes + "\x0e" + unless(2) + "\x11\x01" + last},
		{0, "let a = self; let b = open; allow if b; deny if a;", "G\x01\x02" + self + "\x05\x00" + open + "\x05\x01" + "\x06\x01" + unless(2) + "\x11\x01" + "\x06\x00" + unless(2) + "\x12\x02" + last},
		{0, "let a = if self then 1 else 2;", "G\x01\x01" + self + unless(12) + one + jump(9) + two + "\x05\x00" + last},
		{0, "let a = 1 + (if self then level else rank);", "G\x02\x01" + one + self + unless(5) + level + jump(2) + rank + "\x07\x05\x00" + last},

		{Jumps, "allow if self;", "G\x01\x00" + self + unless(2) + "\x11\x01" + last},
		{Jumps, "deny if not self;", "G\x01\x00" + self + not + unless(2) + "\x12\x01" + last},
		{Jumps, "deny if not not self;", "G\x01\x00" + self + unless(2) + "\x12\x01" + last},
		{Jumps, "deny if self and open;", "G\x01\x00" + self + unless(7) + open + unless(2) + "\x12\x01" + last},
		{Jumps, "deny if self or open;", "G\x01\x00" + self + not + unless(5) + open + unless(2) + "\x12\x01" + last},
		{Jumps, "deny if not (self and open);", "G\x01\x00" + self + unless(6) + open + not + unless(2) + "\x12\x01" + last},
		{Jumps, "deny if not (self or open);", "G\x01\x00" + self + not + unless(8) + open + not + unless(2) + "\x12\x01" + last},
		{Jumps, "deny if if self then open else level = rank;", "G\x02\x00" + self + unless(8) + open + unless(13) + jump(8) + level + rank + "\x09" + unless(2) + "\x12\x01" + last},
		{Jumps, "allow if true; deny if false;", "G\x00\x00" + "\x11\x01" + jump(2) + "\x12\x02" + last},
		{Jumps, "deny if not true;", "G\x00\x00" + jump(2) + "\x12\x01" + last},
		{Jumps, "let a = self and open;", "G\x02\x01" + self + open + "\x0d\x05\x00" + last},
		{Jumps, "let a = if self and open then 1 else 2;", "G\x01\x01" + self + unless(17) + open + unless(12) + one + jump(9) + two + "\x05\x00" + last},

		{15, "let a = level; let b = a + 1; deny if b = 2 and not (1 = 1); allow if true and b = 1 + 1; deny if self; let c = b;", "G\x02\x02" + level + one + "\x07\x05\x01" + "\x06\x01" + two + "\x09" + unless(2) + "\x11\x02" + self + unless(2) + "\x12\x03" + last},
	} {
		if got := Compile(read(t, c.text), c.passes); got != c.want {
			t.Errorf("%q with the passes %d:\n%x, want\n%x", c.text, c.passes, got, c.want)
		}
	}
}

// The depth told is as deep as the conditions need, and no deeper.
func TestDepth(t *testing.T) {
	deep := "1" + strings.Repeat("+(1", 19) + strings.Repeat(")", 19)
	for _, c := range []struct {
		text         string
		plain, jumps byte
	}{
		{"let a = " + deep + ";", 20, 20},
		{"let a = 1" + strings.Repeat("+1", 19) + ";", 2, 2},
		{"allow if self" + strings.Repeat(" and (self", 18) + strings.Repeat(")", 18) + ";", 19, 1},
		{"allow if self or (open and (1 < 2 + 3));", 5, 3},
		{"let a = self = (open = (if self and open then self else open));", 4, 3},
		{"let a = if self then 1 + 1 else 1 + (1 + 1);", 3, 3},
		{"let a = if self = (open = self) then 1 else 2;", 3, 3},
		{"let a = self; allow if a;", 1, 1},
		{"let a = 1 + (if self then 2 else 3);", 2, 2},
		{"let a = 1 + (if 2 < 3 and self then 4 else 5);", 3, 3},
		{"let a = 1 + (if self and 2 < 3 then 4 else 5);", 4, 3},
		{"let a = 1 + (if self or 2 < 3 then 4 else 5);", 4, 3},
		{"let a = 1 + (if not (2 < 3) then 4 else 5);", 3, 3},
		{"let a = 1 + (if (if 2 < 3 then self else open) then 4 else 5);", 3, 3},
		{"let a = 1 + (if (if self then 2 < 3 else open) then 4 else 5);", 3, 3},
		{"let a = 1 + (if (if self then open else 2 < 3) then 4 else 5);", 3, 3},
		{"let a = 1 + (if self then 2 + 3 else 4);", 3, 3},
		{"let a = 1 + (if self then 2 else 3 + 4);", 3, 3},
	} {
		for passes, want := range map[int]byte{0: c.plain, Jumps: c.jumps} {
			if b := Compile(read(t, c.text), passes); b[1] != want {
				t.Errorf("%q with the passes %d tells a depth of %d, want %d", c.text, passes, b[1], want)
			}
		}
	}
}
