package gavel

import (
	"math"
	"math/rand"
	"strings"
	"testing"

	"gavel/api"
)

// occasion is an event, and the room it is in.
type occasion struct {
	e api.Event
	s api.State
}

// occasions are some that differ in all fields.
func occasions() []occasion {
	open := hall()
	open.Open = true
	return []occasion{
		{api.Event{}, api.State{}},
		{api.Event{Sender: "ann", Target: "bob", Wants: api.Leave, Need: 50, When: 1000}, hall()},
		{api.Event{Sender: "bob", Target: "ann", Wants: 5, Need: math.MinInt64, When: math.MaxInt64}, open},
		{api.Event{Sender: "eve", Target: "eve", Wants: api.Ban, Need: 10, When: -1}, hall()},
		{api.Event{Sender: "cat", Target: "cat", Wants: -1, Need: math.MaxInt64, When: 10}, open},
	}
}

// mostBytes is how many a code may have, counted by the words of the plain form.
func mostBytes(plain string) int {
	bytes := 32
	for item := range strings.Lines(plain) {
		behind := " if "
		if strings.HasPrefix(item, "let ") {
			behind = " = "
		}
		_, cond, _ := strings.Cut(item, behind)
		bytes += 16
		for _, word := range strings.Fields(strings.NewReplacer("(", " ", ")", " ", ";", " ").Replace(cond)) {
			if word != "then" && word != "else" {
				bytes += 24
			}
		}
	}
	return bytes
}

func compiled(t *testing.T, text string, passes int) string {
	t.Helper()
	b, e, at := Compile(text, passes)
	if b == "" || e != api.OK || at != 0 {
		t.Fatalf("Compile(%q, %d) = %x, %d, %d", text, passes, b, e, at)
	}
	return b
}

// taking gives the code that bytes must be, by Load and by the second opinion.
func taking(t *testing.T, text, b string) *Code {
	t.Helper()
	c, e := Load(b)
	if c == nil || e != api.OK || !mayBeCode(b) {
		t.Fatalf("%q has the code %x: Load has %d, by the second opinion it may be: %v", text, b, e, mayBeCode(b))
	}
	return c
}

// saysAlike holds the codes of a text against Mean, and that against the second opinion.
func saysAlike(t *testing.T, text string, on ...occasion) {
	t.Helper()
	plain, _, _ := Print(text)
	most := mostBytes(plain)
	var meant []api.Verdict
	for _, o := range on {
		v, wrong := Mean(text, o.e, o.s)
		if wrong != api.OK || v != meantByPlain(plain, o.e, o.s) {
			t.Fatalf("Mean(%q) of %+v = %+v, %d", text, o.e, v, wrong)
		}
		meant = append(meant, v)
	}
	done := map[string]bool{}
	for passes := range 16 {
		b := compiled(t, text, passes)
		if done[b] {
			continue
		}
		done[b] = true
		c := taking(t, text, b)
		if len(b) > most {
			t.Fatalf("Compile(%q, %d) has %d bytes, may have %d", text, passes, len(b), most)
		}
		for i, o := range on {
			v, want := c.Judge(o.e, o.s), meant[i]
			if v.Steps < 1 || v.Steps > len(b) {
				t.Fatalf("%q with the passes %d: %d steps of %d bytes", text, passes, v.Steps, len(b))
			}
			want.Steps = v.Steps
			if v != want || v != judged(b, o.e, o.s) {
				t.Fatalf("%q with the passes %d of %+v in %+v: %+v, want %+v", text, passes, o.e, o.s, v, want)
			}
		}
	}
}

func TestMostBytes(t *testing.T) {
	for plain, want := range map[string]int{
		"":                 32,
		"allow if true;\n": 32 + 16 + 24,
		"allow if ((sender = join) and (level < (need + 1)));\n": 32 + 16 + 9*24,
		"let letter = (if self then 1 else (2 - 3));\n":          32 + 16 + 6*24,
		"let a = (not self);\ndeny if a;\n":                      32 + 2*16 + 3*24,
	} {
		if got := mostBytes(plain); got != want {
			t.Errorf("a code of %q may have %d bytes, want %d", plain, got, want)
		}
	}
}

func TestP8Conditions(t *testing.T) {
	const least = "(0 - 9223372036854775807 - 1)"
	for _, cond := range []string{
		"true", "false", "self", "open", "not self", "not not open", "not true",
		"level = 50", "rank < 0", "need <= level", "when < 0 - 0", "level + rank = 45", "need - level < when",
		"sender = join", "target = ban", "wants = leave", "wants = none", "sender = target", "ban = ban", "none = invite",
		"self = open", "self = true", "(self = open) = (not (self or open))", "(not self) = open", "true = (1 < 2)",
		"self and open", "self or open", "self and open or level = 50", "self or open and level = 50", "not (self or open) and not (self and open)",
		"if self then open else not open", "(if self then level else rank) = 50", "(if open then sender else wants) = ban",
		"if if self then open else true then level < 20 else rank < 20", "1 + (if self and open then level else need - 1) = 11",
		"self = (if open or self then open and self else not self)", "1 + (if self and 2 < 3 then 4 else 5) = 5", "2 - (if not (if self or 1 < 2 + 3 then open else 2 < 1) then 4 else 5) < 0", "if true then self else open", "if not true then self else open",
		"9223372036854775807 + 1 = 9223372036854775807", least + " - 1 = " + least, "0 - " + least + " = 9223372036854775807", "need + 1 = need", "when - 1 = when", "level - " + least + " < 0",
		"need + 9223372036854775807 + 1 - 1 = 9223372036854775806", "need - 1 + 1 = need", "72057594037927936 < level", "255 < 256 and not 256 < 255",
	} {
		saysAlike(t, "allow if "+cond+";", occasions()...)
		saysAlike(t, "let a = "+cond+"; deny if not a; allow if a;", occasions()...)
	}
}

func TestP8Policies(t *testing.T) {
	for _, text := range []string{
		"", " \n", "let a = 1;", "let a = ban; let b = self; let c = 7;",
		"let op = 50 <= level; deny if target = ban; allow if op or self;",
		"deny if true; allow if true;", "deny if false; allow if true;", "allow if false; deny if false;",
		"let x = level; let y = x + x; allow if y = 100; let z = y - 1; deny if z = 19;",
		"let k = if self then join else wants; allow if k = ban; deny if k = join;",
		"let a = self; let b = a; let c = b and open; deny if c; let d = not c; allow if d and b; allow if a or c;",
		"deny if self; deny if open; deny if level < 50; allow if sender = join; deny if true;",
		"let a = 1; let b = a + 1; let c = b + b; deny if c = 5; allow if c = 4 and level = 10; deny if c = a or level < b;",
		"let a = level; let b = need; allow if a < b; let c = a - b; deny if c = 0; allow if 0 < c;",
		strings.Repeat("deny if false;", 19) + "allow if self;",
		strings.Repeat("deny if level = 77;", 19) + "allow if self;",
	} {
		saysAlike(t, text, occasions()...)
	}
}

// What the document says of its samples, whatever the passes are.
func TestP8Examples(t *testing.T) {
	op := "let op = 50 <= level; deny if target = ban; allow if op or self;"
	room := api.State{Levels: []api.Level{{User: "op", N: 50}, {User: "low", N: 49}}, Members: []api.Member{{User: "bad", Is: api.Ban}}}
	for passes := range 16 {
		c := taking(t, op, compiled(t, op, passes))
		for _, s := range []struct {
			e     api.Event
			allow bool
			rule  int
		}{
			{api.Event{Sender: "op", Target: "other"}, true, 2},
			{api.Event{Sender: "op", Target: "bad"}, false, 1},
			{api.Event{Sender: "low", Target: "other"}, false, 0},
			{api.Event{Sender: "low", Target: "low"}, true, 2},
		} {
			if v := c.Judge(s.e, room); v.Allow != s.allow || v.Rule != s.rule {
				t.Errorf("with the passes %d, of %+v: %+v", passes, s.e, v)
			}
		}
	}
}

// The greatest that a policy may be, in each way.
func TestP8Greatest(t *testing.T) {
	letters := strings.Split("abcdefghij", "")
	lets, wide := "let a=need;", ""
	for i, name := range letters[1:] {
		lets += "let " + name + "=" + letters[i] + "+" + letters[i] + ";"
	}
	for _, name := range letters[:5] {
		wide += "let " + name + "=7" + strings.Repeat("-7", 17) + ";"
	}
	wide += strings.Repeat("deny if self;", 15) + "allow if a+b<c+d;deny if e=0;" // 5 * 35 + 15 + 7 + 3 parts
	for what, text := range map[string]string{
		"not":              "allow if " + strings.Repeat("not ", 19) + "self;",
		"sum to the right": "allow if level = " + strings.Repeat("1 + (", 17) + "need" + strings.Repeat(")", 17) + ";",
		"sum of lets":      "let a = " + strings.Repeat("1 - (", 19) + "level" + strings.Repeat(")", 19) + "; deny if a < 0; allow if 0 < a;",
		"sum to the left":  "allow if level" + strings.Repeat("+1", 18) + " = need;",
		"equal truths":     "allow if " + strings.Repeat("self = (", 19) + "open" + strings.Repeat(")", 19) + ";",
		"and, or":          "allow if " + strings.Repeat("self or (open and (", 9) + "self" + strings.Repeat("))", 9) + ";",
		"not and":          "allow if " + strings.Repeat("not (open and ", 9) + "self" + strings.Repeat(")", 9) + ";",
		"if in else":       "allow if " + strings.Repeat("if level = 77 then self else ", 18) + "open;",
		"if in then":       "allow if " + strings.Repeat("if need<99 then ", 18) + "open" + strings.Repeat(" else self", 18) + ";",
		"if in if":         "allow if " + strings.Repeat("if ", 19) + "open" + strings.Repeat(" then self else open", 19) + ";",
		"if under sums":    "let a = " + strings.Repeat("1+(if self then 2 else ", 9) + "level" + strings.Repeat(")", 9) + "; allow if a = 19; deny if a = 59;",
		"rules":            strings.Repeat("deny if level=77;", 19) + "allow if self;",
		"lets":             lets + "deny if j < 25600; allow if j = 25600;",
		"lets and rules":   lets + strings.Repeat("deny if j<a;allow if i=j;", 10),
		"parts":            wide,
		"numbers":          "allow if " + strings.Repeat("9223372036854775807+", 18) + "1=9223372036854775807;" + strings.Repeat("deny if 9223372036854775807=9;", 17),
	} {
		if e, at := Check(text); e != api.OK {
			t.Fatalf("%s: Check = %d, %d", what, e, at)
		}
		saysAlike(t, text, occasions()...)
	}
	if plain, _, _ := Print(wide); mostBytes(plain) != 32+22*16+api.MaxParts*24 {
		t.Errorf("the widest policy may have %d bytes", mostBytes(plain))
	}
	over := []refusal{
		{"allow if " + strings.Repeat("not ", 20) + "self;", api.ErrMany, 0},
		{wide + "deny if self;", api.ErrMany, len(wide)},
		{lets + "let k = 1;", api.ErrMany, len(lets)},
	}
	refused(t, over)
}

func TestP8ErrorsOfCheck(t *testing.T) {
	ahead := "allow if true; "
	refused(t, []refusal{
		{"allow if level;", api.ErrType, 0}, {"allow if x;", api.ErrName, 9}, {"allow if 1 < 2 < 3;", api.ErrForm, 15},
		{"allow if true", api.ErrForm, 13}, {"allow if $;", api.ErrWord, 9}, {"let a = 1; let a = 2;", api.ErrName, 15},
		{padded(ahead, api.MaxText+1), api.ErrLong, 0}, {ahead + "$", api.ErrWord, 15}, {ahead + "deny if x;", api.ErrName, 23},
		{ahead + "deny if level;", api.ErrType, 15}, {ahead + "deny if 1; deny if x; $", api.ErrWord, 37},
		{ahead + strings.Repeat("deny if self;", 20), api.ErrMany, 15 + 19*13},
	})
}

func TestP8LowestFourBits(t *testing.T) {
	for _, text := range []string{
		"", "allow if true;",
		"let a = level; let b = a + 1 + 2; let c = b; deny if (b < 3 and self or open) and (true or self); allow if not not (c = 1 + 2); deny if 1 = 1; allow if self;",
	} {
		for passes := range 16 {
			b := compiled(t, text, passes)
			for _, high := range []int{0, 16, 32, 48, 1 << 20, 1 << 40, -16, -32, math.MinInt, math.MaxInt - 15} {
				if more, _, _ := Compile(text, high+passes); more != b {
					t.Errorf("Compile(%q) with the passes %d and %d: %x and %x", text, passes, high+passes, b, more)
				}
			}
		}
	}
}

// Each pass has a bit of its own, and does something.
func TestP8PassesDiffer(t *testing.T) {
	text := "let a = level; let b = a + 1; let c = b + b; deny if b < 1 + 2; allow if self and open;"
	by := map[string]int{}
	for passes := range 16 {
		b := compiled(t, text, passes)
		if other, ok := by[b]; ok {
			t.Errorf("the passes %d and %d make one code", other, passes)
		}
		by[b] = passes
	}
}

// ofOneForm has texts of one plain form, in each row, the plain form last.
func ofOneForm() [][]string {
	return [][]string{
		{" ", "\n\n", ""},
		{"allow if sender=join and(level<need+1);", " allow\nif((((sender)=join)))and level<need+001 ;", "allow if ((sender = join) and (level < (need + 1)));\n"},
		{"let a=7;deny if a+1+2<level;", "let a = 007; deny if ((a + 1) + 2) < (level);", "\nlet a\n=\n(7)\n;\ndeny if a + 1 + 0002 < level;", "let a = 7;\ndeny if (((a + 1) + 2) < level);\n"},
		{"allow if if self then 1<2 else not not open;", "allow if (if (self) then (1 < 2) else (not (not open)));", "allow if (if self then (1 < 2) else (not (not open)));\n"},
		{"deny if self or open and not level=rank;", "deny if (self)or(open and(not(level)=(rank)));", "deny if (self or (open and (not (level = rank))));\n"},
	}
}

func TestP8OnePlainFormOneCode(t *testing.T) {
	for _, texts := range ofOneForm() {
		for passes := range 16 {
			first := compiled(t, texts[0], passes)
			for _, text := range texts {
				if b := compiled(t, text, passes); b != first {
					t.Errorf("%q and %q with the passes %d: %x and %x", texts[0], text, passes, first, b)
				}
			}
		}
	}
}

func TestP9PlainFormsMeanTheSame(t *testing.T) {
	for _, texts := range ofOneForm() {
		plain := texts[len(texts)-1]
		for _, text := range texts {
			if s, e, at := Print(text); s != plain || e != api.OK || at != 0 {
				t.Errorf("Print(%q) = %q, %d, %d, want %q", text, s, e, at, plain)
			}
			for _, o := range occasions() {
				v, e := Mean(text, o.e, o.s)
				if want, e2 := Mean(plain, o.e, o.s); v != want || e != api.OK || e2 != api.OK {
					t.Errorf("Mean(%q) of %+v = %+v, %d, of its plain form %+v, %d", text, o.e, v, e, want, e2)
				}
			}
		}
	}
}

// truths are all conditions of truths that are so deep, without if.
func truths(deep int) []string {
	all := []string{"self", "open", "true", "false"}
	if deep == 0 {
		return all
	}
	under := truths(deep - 1)
	for _, a := range under {
		all = append(all, "(not "+a+")")
		for _, b := range under {
			all = append(all, "("+a+" and "+b+")", "("+a+" or "+b+")")
		}
	}
	return all
}

func TestP8P9AllShortConditions(t *testing.T) {
	var on []occasion
	for _, target := range []string{"a", "b"} {
		for _, open := range []bool{false, true} {
			on = append(on, occasion{api.Event{Sender: "a", Target: target}, api.State{Open: open}})
		}
	}
	for _, cond := range truths(2) {
		saysAlike(t, "allow if "+cond+";", on...)
	}
	few := truths(1)
	for i, a := range few {
		for k, b := range few {
			c := few[(i*7+k*3)%len(few)]
			saysAlike(t, "allow if if "+a+" then "+b+" else "+c+"; let x = if "+b+" then "+c+" else "+a+"; deny if not x;", on...)
		}
	}
}

func TestP8P9PoliciesMadeAtRandom(t *testing.T) {
	m := &maker{Rand: rand.New(rand.NewSource(9))}
	seen := map[api.Verdict]int{}
	for i := range 1500 {
		m.slim = i%3 == 0
		deep := 1 + m.Intn(5)
		if m.slim {
			deep = 10 + m.Intn(9)
		}
		w := m.policy(1+m.Intn(8), deep)
		if w.e != api.OK || len(w.text) > api.MaxText {
			continue
		}
		var on []occasion
		for range 4 {
			e, s := m.event()
			on = append(on, occasion{e, s})
			v, _ := Mean(w.text, e, s)
			seen[v]++
		}
		saysAlike(t, w.text, on...)
		if len(w.plain) > api.MaxText {
			continue
		}
		for passes := range 16 {
			if b, again := compiled(t, w.text, passes), compiled(t, w.plain, passes); b != again {
				t.Fatalf("%q and its plain form with the passes %d: %x and %x", w.text, passes, b, again)
			}
		}
	}
	for rule := 1; rule < 4; rule++ {
		if seen[api.Verdict{Allow: true, Rule: rule}] < 50 || seen[api.Verdict{Rule: rule}] < 50 {
			t.Errorf("rule %d decided too seldom: %v", rule, seen)
		}
	}
	if seen[api.Verdict{}] < 50 {
		t.Errorf("too few events were decided by none: %v", seen)
	}
}
