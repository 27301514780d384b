package gavel

import (
	"math"
	"math/rand"
	"slices"
	"strings"
	"testing"

	"gavel/api"
)

// hall is a room in which some users stand twice, and some are what nobody can be.
func hall() api.State {
	return api.State{
		Levels:  []api.Level{{User: "ann", N: 50}, {User: "bob", N: -5}, {User: "ann", N: 100}, {User: "", N: 3}},
		Default: 10,
		Members: []api.Member{{User: "ann", Is: api.Join}, {User: "bob", Is: api.Ban}, {User: "cat", Is: 5}, {User: "bob", Is: api.Join}, {User: "cat", Is: api.Join}, {User: "dan", Is: -1}, {User: "eve", Is: api.Invite}, {User: "fay", Is: api.Leave}},
	}
}

func meansTrue(t *testing.T, cond string, e api.Event, s api.State) {
	t.Helper()
	for text, want := range map[string]api.Verdict{
		"allow if " + cond + ";":       {Allow: true, Rule: 1},
		"deny if " + cond + ";":        {Rule: 1},
		"allow if not (" + cond + ");": {},
		"deny if not (" + cond + ");":  {},
	} {
		if v, wrong := Mean(text, e, s); v != want || wrong != api.OK {
			t.Errorf("Mean(%q) of %+v = %+v, %d, want %+v", text, e, v, wrong, want)
		}
	}
}

func TestP5Fields(t *testing.T) {
	shut, open := hall(), hall()
	open.Open = true
	for _, c := range []struct {
		cond string
		e    api.Event
	}{
		{"level = 50 and rank = 0 - 5", api.Event{Sender: "ann", Target: "bob"}},
		{"level = 0 - 5 and rank = 50", api.Event{Sender: "bob", Target: "ann"}},
		{"level = 10 and rank = 3", api.Event{Sender: "cat"}},
		{"level = 3 and rank = 10", api.Event{Target: "an"}},
		{"need = 7 and when = 8", api.Event{Need: 7, When: 8}},
		{"need = 0 - 1 and when = 0 - 9223372036854775807 - 1", api.Event{Need: -1, When: math.MinInt64}},
		{"need = 9223372036854775807 and when = 0", api.Event{Need: math.MaxInt64}},
		{"sender = join and target = ban", api.Event{Sender: "ann", Target: "bob"}},
		{"sender = ban and target = join", api.Event{Sender: "bob", Target: "ann"}},
		{"sender = none and target = none", api.Event{Sender: "cat", Target: "dan"}},
		{"sender = none and target = none", api.Event{Sender: "Ann", Target: ""}},
		{"sender = invite and target = leave", api.Event{Sender: "eve", Target: "fay"}},
		{"wants = none", api.Event{}},
		{"wants = invite", api.Event{Wants: 1}},
		{"wants = join", api.Event{Wants: 2}},
		{"wants = leave", api.Event{Wants: 3}},
		{"wants = ban", api.Event{Wants: 4}},
		{"wants = none", api.Event{Wants: 5}},
		{"wants = none", api.Event{Wants: -1}},
		{"wants = none", api.Event{Wants: math.MaxInt}},
		{"wants = none", api.Event{Wants: math.MinInt}},
		{"self", api.Event{}},
		{"self", api.Event{Sender: "zoe", Target: "zoe"}},
		{"not self", api.Event{Sender: "zoe", Target: "zo"}},
	} {
		meansTrue(t, "("+c.cond+") and not open", c.e, shut)
		meansTrue(t, "("+c.cond+") and open", c.e, open)
	}
	meansTrue(t, "self and not open and level = 0 and rank = 0 and need = 0 and when = 0 and sender = none and target = none and wants = none", api.Event{}, api.State{})
	meansTrue(t, "level = 0 - 9223372036854775807 - 1 and rank = level", api.Event{Sender: "x"}, api.State{Default: math.MinInt64})
}

func TestP5Conditions(t *testing.T) {
	const most, least = "9223372036854775807", "(0 - 9223372036854775807 - 1)"
	for _, cond := range []string{
		"true", "not false", "true or false", "false or true", "true or true", "not (false or false)",
		"true and true", "not (true and false)", "not (false and true)", "not (false and false)",
		"1 < 2", "not 2 < 2", "not 3 < 2", "1 <= 2", "2 <= 2", "not 3 <= 2", "0 - 1 < 0", least + " < " + most, "not " + most + " <= " + least,
		"2 = 2", "not 2 = 3", "join = join", "not none = ban", "true = true", "false = false", "not true = false",
		"0007 = 7", "2 + 3 = 5", "2 - 3 = 0 - 1", "9 - 4 - 3 = 2", "9 - (4 - 3) = 8", "9 - 4 + 3 = 8",
		most + " + 1 = " + most, most + " + " + most + " = " + most, most + " + 1 - 1 = " + most + " - 1",
		"0 - 9223372036854775807 - 1 - 1 = " + least, least + " < 0 - " + most, least + " + " + least + " = " + least,
		"0 - " + least + " = " + most, "1 - " + least + " = " + most, "(0 - 1) - " + least + " = " + most, "(0 - 2) - " + least + " < " + most,
		least + " - " + least + " = 0", least + " + " + most + " = 0 - 1", most + " - " + most + " = 0", least + " - " + most + " = " + least, most + " - " + least + " = " + most,
		"if true then true else false", "not (if false then true else false)",
		"(if true then 1 else 2) = 1", "(if false then 1 else 2) = 2", "(if false then ban else join) = join",
		"if false then false else if true then true else false",
		"true or true and false", "not (true or true) or true", "not false and true", "not not true", "not true = false",
		"(not true) = false", "1 + 1 < 3 and 3 <= 1 + 2",
	} {
		meansTrue(t, cond, api.Event{}, api.State{})
	}
}

func TestP5FirstRuleDecides(t *testing.T) {
	op := "let op = 50 <= level; deny if target = ban; allow if op or self;"
	nineteen := strings.Repeat("deny if false;", 19)
	for _, c := range []struct {
		text, sender, target string
		want                 api.Verdict
	}{
		{"", "ann", "bob", api.Verdict{}},
		{" \n", "ann", "bob", api.Verdict{}},
		{"let a = true;", "ann", "bob", api.Verdict{}},
		{op, "ann", "zoe", api.Verdict{Allow: true, Rule: 2}},
		{op, "ann", "bob", api.Verdict{Rule: 1}},
		{op, "eve", "ann", api.Verdict{}},
		{op, "eve", "eve", api.Verdict{Allow: true, Rule: 2}},
		{"allow if true; deny if true;", "ann", "bob", api.Verdict{Allow: true, Rule: 1}},
		{"deny if true; allow if true;", "ann", "bob", api.Verdict{Rule: 1}},
		{"deny if self; allow if open; deny if level = 50; allow if true;", "ann", "bob", api.Verdict{Rule: 3}},
		{"let a = 1; let b = a + 1; deny if a = b; let c = b + a; allow if c = 3;", "ann", "bob", api.Verdict{Allow: true, Rule: 2}},
		{"let b = level; let a = rank; allow if b < a; deny if a < b;", "ann", "bob", api.Verdict{Rule: 2}},
		{"let b = level; let a = rank; allow if b < a; deny if a < b;", "bob", "ann", api.Verdict{Allow: true, Rule: 1}},
		{"let a = if self then join else target; allow if a = join; deny if a = ban;", "ann", "bob", api.Verdict{Rule: 2}},
		{nineteen + "allow if not self;", "ann", "bob", api.Verdict{Allow: true, Rule: 20}},
		{nineteen + "deny if not self;", "ann", "bob", api.Verdict{Rule: 20}},
		{nineteen + "allow if self;", "ann", "bob", api.Verdict{}},
	} {
		if v, wrong := Mean(c.text, api.Event{Sender: c.sender, Target: c.target}, hall()); v != c.want || wrong != api.OK {
			t.Errorf("Mean(%.90q) of %s to %s = %+v, %d, want %+v", c.text, c.sender, c.target, v, wrong, c.want)
		}
	}
}

// Names that stand for twice the one before would take long, if each were told anew.
func TestP1MeanOfNamesOverNames(t *testing.T) {
	text := "let a = need;"
	for _, name := range []string{"b", "c", "d", "e", "f", "g", "h", "i", "j"} {
		before := string(name[0] - 1)
		text += "let " + name + " = " + before + strings.Repeat(" + "+before, 9) + ";"
	}
	text += "allow if j = 1000000000;"
	if v, wrong := Mean(text, api.Event{Need: 1}, api.State{}); v != (api.Verdict{Allow: true, Rule: 1}) || wrong != api.OK {
		t.Errorf("Mean = %+v, %d", v, wrong)
	}
}

// An error, wherever it stands, leaves no verdict, even if a rule ahead of it would decide.
func TestP1MeanHasTheErrorOfCheck(t *testing.T) {
	ahead := "allow if true; "
	for _, c := range []struct {
		text string
		want api.Errno
	}{
		{padded(ahead, api.MaxText+1), api.ErrLong},
		{ahead + "$", api.ErrWord},
		{ahead + "allow", api.ErrForm},
		{ahead + strings.Repeat("deny if self;", 20), api.ErrMany},
		{ahead + "deny if x;", api.ErrName},
		{ahead + "let a = 1; let a = 2;", api.ErrName},
		{ahead + "deny if level;", api.ErrType},
		{ahead + "let a = 1 + join;", api.ErrType},
		{ahead + "deny if 1; deny if x; $", api.ErrWord},
	} {
		if v, wrong := Mean(c.text, api.Event{}, api.State{}); v != (api.Verdict{}) || wrong != c.want {
			t.Errorf("Mean(%.90q) = %+v, %d, want %d", c.text, v, wrong, c.want)
		}
	}
}

func TestP2MeanLeavesWhatIsHandedIn(t *testing.T) {
	levels := append(hall().Levels, api.Level{User: "spare", N: 1})
	members := append(hall().Members, api.Member{User: "spare", Is: api.Ban})
	levelsBefore, membersBefore := slices.Clone(levels), slices.Clone(members)
	s := api.State{Levels: levels[:len(levels)-1], Members: members[:len(members)-1], Default: 2}
	text := "let a = level + rank; deny if a < 0 or sender = ban; allow if level = 50 and target = none;"
	for range 3 {
		v, wrong := Mean(text, api.Event{Sender: "ann", Target: "spare"}, s)
		if v != (api.Verdict{Allow: true, Rule: 2}) || wrong != api.OK {
			t.Errorf("Mean = %+v, %d", v, wrong)
		}
	}
	if !slices.Equal(levels, levelsBefore) || !slices.Equal(members, membersBefore) {
		t.Errorf("the lists are %v and %v now", levels, members)
	}
	levels[0].N = 49
	if v, _ := Mean(text, api.Event{Sender: "ann", Target: "spare"}, s); v != (api.Verdict{}) {
		t.Errorf("with another level: %+v", v)
	}
}

func (m *maker) user() string { return m.pick("ann", "bob", "cat", "dan", "eve", "") }

func (m *maker) number() int64 {
	return []int64{0, 1, -1, 50, int64(m.Intn(100)), -int64(m.Intn(100)), math.MaxInt64, math.MinInt64, math.MaxInt64 - 1}[m.Intn(9)]
}

func (m *maker) event() (api.Event, api.State) {
	s := api.State{Default: m.number(), Open: m.Intn(2) == 0}
	for range m.Intn(5) {
		s.Levels = append(s.Levels, api.Level{User: m.user(), N: m.number()})
		s.Members = append(s.Members, api.Member{User: m.user(), Is: m.Intn(7) - 1})
	}
	return api.Event{Sender: m.user(), Target: m.user(), Wants: m.Intn(7) - 1, Need: m.number(), When: m.number()}, s
}

func TestP5P9PoliciesMadeAtRandom(t *testing.T) {
	m := &maker{Rand: rand.New(rand.NewSource(5))}
	seen := map[api.Verdict]int{}
	for i := range 4000 {
		m.slim = i%3 == 0
		deep := 1 + m.Intn(5)
		if m.slim {
			deep = 10 + m.Intn(9)
		}
		w := m.policy(1+m.Intn(8), deep)
		if w.e != api.OK || len(w.text) > api.MaxText {
			continue
		}
		for range 6 {
			e, s := m.event()
			want := meantByPlain(w.plain, e, s)
			seen[want]++
			for _, text := range []string{w.text, w.plain} {
				if v, wrong := Mean(text, e, s); len(text) <= api.MaxText && (v != want || wrong != api.OK) {
					t.Fatalf("Mean(%q) of %+v in %+v = %+v, %d, want %+v", text, e, s, v, wrong, want)
				}
			}
		}
	}
	for rule := 1; rule < 5; rule++ {
		if seen[api.Verdict{Allow: true, Rule: rule}] < 50 || seen[api.Verdict{Rule: rule}] < 50 {
			t.Errorf("rule %d decided too seldom: %v", rule, seen)
		}
	}
	if seen[api.Verdict{}] < 50 {
		t.Errorf("too few events were decided by none: %v", seen)
	}
}
