package gavel

import (
	"strings"
	"testing"

	"gavel/api"
)

type refusal struct {
	text string
	e    api.Errno
	at   int
}

// refused asks Print and Compile too, which have the error and place of Check, and Mean, which has its error.
func refused(t *testing.T, cases []refusal) {
	t.Helper()
	for _, c := range cases {
		if e, at := Check(c.text); e != c.e || at != c.at {
			t.Errorf("Check(%.90q) = %d, %d, want %d, %d", c.text, e, at, c.e, c.at)
		}
		if s, e, at := Print(c.text); s != "" || e != c.e || at != c.at {
			t.Errorf("Print(%.90q) = %q, %d, %d, want nothing, %d, %d", c.text, s, e, at, c.e, c.at)
		}
		if v, e := Mean(c.text, api.Event{}, api.State{}); v != (api.Verdict{}) || e != c.e {
			t.Errorf("Mean(%.90q) = %+v, %d, want nothing, %d", c.text, v, e, c.e)
		}
		for _, passes := range []int{0, 15, -1} {
			if b, e, at := Compile(c.text, passes); b != "" || e != c.e || at != c.at {
				t.Errorf("Compile(%.90q, %d) = %q, %d, %d, want nothing, %d, %d", c.text, passes, b, e, at, c.e, c.at)
			}
		}
	}
}

func accepted(t *testing.T, texts ...string) {
	t.Helper()
	for _, text := range texts {
		if e, at := Check(text); e != api.OK || at != 0 {
			t.Errorf("Check(%.90q) = %d, %d", text, e, at)
		}
	}
}

// padded makes a text of this many bytes by blanks ahead.
func padded(text string, size int) string {
	return strings.Repeat(" ", size-len(text)) + text
}

func TestP3Long(t *testing.T) {
	accepted(t, padded("", api.MaxText), padded("deny if self;", api.MaxText))
	refused(t, []refusal{
		{padded("", api.MaxText+1), api.ErrLong, 0},
		{padded("deny if self;", api.MaxText+1), api.ErrLong, 0},
		{strings.Repeat("$", api.MaxText+1), api.ErrLong, 0},
		{strings.Repeat("\xff", 1<<20), api.ErrLong, 0},
	})
}

func TestP3Word(t *testing.T) {
	accepted(t, "allow\nif\nself\n;\n", "allow if 1<2and 2<1or 3=3;", "let abcdefgh = 0;", "let a = 000;")
	refused(t, []refusal{
		{"allow if $;", api.ErrWord, 9},
		{"allow\tif self;", api.ErrWord, 5},
		{"allow if self;\r\n", api.ErrWord, 14},
		{"allow if selfself or Open;", api.ErrWord, 21},
		{"let abcdefghi = 1;", api.ErrWord, 4},
		{"let a = 9223372036854775808;", api.ErrWord, 8},
		{"let a = 1 + 0000000000000000000009223372036854775808;", api.ErrWord, 12},
		{"allow if 1 >= 2;", api.ErrWord, 11},
		{"allow if 1 != 2;", api.ErrWord, 11},
		{"allow if \"a\" = 1;", api.ErrWord, 9},
		{"allow if s\u00e9lf;", api.ErrWord, 10},
		{"# note", api.ErrWord, 0},
		{strings.Repeat("7", api.MaxText), api.ErrWord, 0},
		{strings.Repeat("a", api.MaxText), api.ErrWord, 0},
	})
}

func TestP3Form(t *testing.T) {
	accepted(t, "", "\n",
		"allow if not (if self then open else self) and open;",
		"allow if (1 < 2) = (3 < 4);",
		"allow if if self then not open else open or self and open;",
	)
	refused(t, []refusal{
		{"allow if true", api.ErrForm, 13},
		{"allow if true \n ", api.ErrForm, 16},
		{"allow if 1 < 2 < 3;", api.ErrForm, 15},
		{"allow if 1 = 2 <= 3;", api.ErrForm, 15},
		{"allow if 1 < = 2;", api.ErrForm, 13},
		{"allow if 1 + 2 = 3 + 4 = 5;", api.ErrForm, 23},
		{"  self;", api.ErrForm, 2},
		{"let", api.ErrForm, 3}, {"let a", api.ErrForm, 5}, {"let a =", api.ErrForm, 7}, {"let a = 1", api.ErrForm, 9},
		{"let if = 1;", api.ErrForm, 4}, {"let 1 = 1;", api.ErrForm, 4}, {"let a < 1;", api.ErrForm, 6}, {"let a <= 1;", api.ErrForm, 6},
		{"allow", api.ErrForm, 5}, {"allow if", api.ErrForm, 8}, {"deny if", api.ErrForm, 7}, {"deny self;", api.ErrForm, 5},
		{"allow if;", api.ErrForm, 8}, {"allow if self;;", api.ErrForm, 14}, {";", api.ErrForm, 0},
		{"allow if self deny if self;", api.ErrForm, 14},
		{"allow if self or if self then self else self;", api.ErrForm, 17},
		{"allow if not if self then self else self;", api.ErrForm, 13},
		{"allow if 1 < not self;", api.ErrForm, 13},
		{"allow if self and or self;", api.ErrForm, 18},
		{"allow if + 1;", api.ErrForm, 9}, {"allow if 1 + - 1 = 0;", api.ErrForm, 13}, {"allow if 1 +;", api.ErrForm, 12},
		{"allow if self not open;", api.ErrForm, 14},
		{"allow if self self;", api.ErrForm, 14},
		{"allow if 1 2;", api.ErrForm, 11},
		{"allow if self then self;", api.ErrForm, 14},
		{"allow if if self then self;", api.ErrForm, 26},
		{"allow if if self else self;", api.ErrForm, 17},
		{"allow if if self then self else self else self;", api.ErrForm, 37},
		{"allow if (if self then self) else self;", api.ErrForm, 27},
		{"allow if (self;", api.ErrForm, 14}, {"allow if self);", api.ErrForm, 13}, {"allow if ();", api.ErrForm, 10},
		{"allow if (self;)", api.ErrForm, 14}, {"allow if (self)(open);", api.ErrForm, 15},
		{"allow if let a = 1;", api.ErrForm, 9},
		{"allow if " + strings.Repeat("(", 991), api.ErrForm, 1000},
		{"allow if " + strings.Repeat("not ", 247), api.ErrForm, 997},
	})
}

func TestP3Many(t *testing.T) {
	lets := ""
	for _, name := range strings.Fields("aa b c d e f g h i j") {
		lets += "let " + name + "=1;"
	}
	rules := strings.Repeat("deny if self;", 19) + "allow if self;"
	elevens := strings.Repeat("deny if 1+1+1+1<1+1;", 18) // 198 parts
	deep := "allow if " + strings.Repeat("not ", 19) + "self;"
	accepted(t, lets+rules, elevens, elevens+"deny if not self;", elevens+"deny if self;deny if open;", deep,
		"allow if 0"+strings.Repeat("+1", 18)+"<1;",
		"allow if "+strings.Repeat("if self then self else ", 19)+"self;",
		"allow if "+strings.Repeat("(", 490)+"self"+strings.Repeat(")", 490)+";",
	)
	refused(t, []refusal{
		{lets + " let k = 1;", api.ErrMany, len(lets) + 1},
		{rules + "\nlet a=1;deny if self;deny if open;", api.ErrMany, len(rules) + 9},
		{elevens + "deny if not not self;", api.ErrMany, len(elevens)},
		{elevens + "deny if self;let a=1; let b=1;", api.ErrMany, len(elevens) + 22},
		{"deny if self; allow if not" + deep[8:], api.ErrMany, 14},
		{"allow if 0" + strings.Repeat("+1", 19) + "<1;", api.ErrMany, 0},
		{"let a = 0" + strings.Repeat("-1", 20) + ";", api.ErrMany, 0},
		{"allow if " + strings.Repeat("if self then self else ", 20) + "self;", api.ErrMany, 0},
		{"allow if " + strings.Repeat("if ", 20) + "self" + strings.Repeat(" then self else open", 20) + ";", api.ErrMany, 0},
		{"allow if self" + strings.Repeat(" or self", 20) + ";", api.ErrMany, 0},
		{"allow if self" + strings.Repeat(" and self", 20) + ";", api.ErrMany, 0},
	})
}

func TestP3Name(t *testing.T) {
	accepted(t, "let a = 1; let b = a; allow if a = b;", "allow if self; let a = self; deny if a;")
	refused(t, []refusal{
		{"allow if x;", api.ErrName, 9},
		{"let a = a;", api.ErrName, 8},
		{"let a = 1; let a = 2;", api.ErrName, 15},
		{"let a = 1; let a = x;", api.ErrName, 15},
		{"let a = 1; let b = 1; let a = self;", api.ErrName, 26},
		{"allow if a; let a = self;", api.ErrName, 9},
		{"let a = b; let b = 1;", api.ErrName, 8},
		{"let a = 1; deny if a = b or c;", api.ErrName, 23},
		{"allow if if p then q else r;", api.ErrName, 12},
		{"allow if if self then q else r;", api.ErrName, 22},
		{"allow if if self then self else r;", api.ErrName, 32},
		{"allow if (not((z)));", api.ErrName, 15},
		{"let abcdefgh = 1; allow if abcdefg = 1;", api.ErrName, 27},
	})
}

func TestP3Type(t *testing.T) {
	accepted(t, "let a = join; let b = 1; let c = self; allow if a = sender and b = level and c = open;",
		"allow if if self then self else open;", "allow if (if self then 1 else level) < 2;",
		"allow if (if self then none else wants) = target;", "let a = 1 < 2; allow if a;")
	refused(t, []refusal{
		{"allow if level;", api.ErrType, 0}, {"deny if 1;", api.ErrType, 0}, {"deny if wants;", api.ErrType, 0},
		{"let a = 1; let b = a; deny if b;", api.ErrType, 22},
		{"let a = ban; deny if a;", api.ErrType, 13},
		{" let a = 1 + self; allow if 1;", api.ErrType, 1},
		{"let a = self + 1;", api.ErrType, 0}, {"let a = 1 - join;", api.ErrType, 0}, {"let a = join - 1;", api.ErrType, 0},
		{"let a = join < ban;", api.ErrType, 0}, {"let a = self < 1;", api.ErrType, 0}, {"let a = 1 < self;", api.ErrType, 0},
		{"let a = self <= open;", api.ErrType, 0}, {"let a = 1 <= join;", api.ErrType, 0},
		{"let a = 1 = self;", api.ErrType, 0}, {"let a = join = 2;", api.ErrType, 0}, {"let a = self = join;", api.ErrType, 0},
		{"let a = self or 1;", api.ErrType, 0}, {"let a = join or self;", api.ErrType, 0},
		{"let a = self and join;", api.ErrType, 0}, {"let a = 1 and self;", api.ErrType, 0},
		{"let a = not 1;", api.ErrType, 0}, {"let a = not ban;", api.ErrType, 0},
		{"let a = if 1 then 1 else 1;", api.ErrType, 0}, {"let a = if join then 1 else 1;", api.ErrType, 0},
		{"let a = if self then 1 else self;", api.ErrType, 0}, {"let a = if self then ban else 4;", api.ErrType, 0},
		{"let a = (1 + self) = (1 + self);", api.ErrType, 0},
		{"let a = if self then not 1 else not 1;", api.ErrType, 0},
		{"allow if self; deny if if self then 1 else 2;", api.ErrType, 15},
		{"allow if self; deny if 1; deny if 2;", api.ErrType, 15},
	})
}

// The error named first is the answer, even where another stands ahead of it in the text.
func TestP1OrderOfErrors(t *testing.T) {
	many := strings.Repeat("allow if self;", 21)
	refused(t, []refusal{
		{padded("allow if $;", 1001), api.ErrLong, 0},
		{"); $", api.ErrWord, 3},
		{"allow if x; allow if 1; ) \t", api.ErrWord, 26},
		{"allow if level; deny if x; )", api.ErrForm, 27},
		{many + " ;", api.ErrForm, len(many) + 1},
		{"allow if x; allow if 1;" + many, api.ErrMany, 23 + 18*14},
		{"allow if 1; allow if x;", api.ErrName, 21},
	})
}
