package policy

import (
	"testing"

	"gavel/api"
	"gavel/types"
	"gavel/values"
	"gavel/words"
)

func read(t *testing.T, text string) Policy {
	t.Helper()
	p, e, at := Read(text)
	if e != api.OK || at != 0 {
		t.Fatalf("Read(%q): %d at %d", text, e, at)
	}
	return p
}

func TestPartsAndDepth(t *testing.T) {
	for _, c := range []struct {
		text         string
		parts, depth int
	}{
		{"allow if true;", 1, 1},
		{"allow if (((true)));", 1, 1},
		{"allow if sender = join and level < need + 1;", 9, 4},
		{"allow if not self;", 2, 2},
		{"allow if self or open or self;", 5, 3},
		{"allow if self or (open or self);", 5, 3},
		{"allow if (self or open) or (self or open);", 7, 3},
		{"allow if if self then open else not (not self);", 6, 4},
		{"let a = 1 + 2 - 3 - 4;", 7, 4},
		{"let a = 1; allow if a < 2;", 1, 1},
	} {
		first := read(t, c.text)[0].Cond
		if first.parts() != c.parts || first.depth() != c.depth {
			t.Errorf("%q: %d parts, depth %d, want %d and %d", c.text, first.parts(), first.depth(), c.parts, c.depth)
		}
	}
}

func TestNamesAreResolved(t *testing.T) {
	p := read(t, "let b = 1; allow if b < 2; let a = b + 1; deny if a < b;")
	under := p[3].Cond.Under
	if p[1].Cond.Under[0].Let != 0 || under[0].Let != 1 || under[1].Let != 0 {
		t.Errorf("a is let %d, b is let %d", under[0].Let, under[1].Let)
	}
}

func TestItemsKeepTheirWords(t *testing.T) {
	p := read(t, " let x = 1;\ndeny if self; allow if open;")
	kinds := []words.Kind{words.Let, words.Deny, words.Allow}
	places := []int{1, 12, 26}
	for i, it := range p {
		if it.Kind != kinds[i] || it.At != places[i] {
			t.Errorf("item %d: kind %d at %d, want %d at %d", i, it.Kind, it.At, kinds[i], places[i])
		}
	}
	if p[0].Given.Name != "x" || p[0].Given.At != 5 {
		t.Errorf("the let gives %v", p[0].Given)
	}
}

func TestItemsAreCounted(t *testing.T) {
	p := read(t, "deny if self; let x = 1; allow if open; let y = 2; let z = 3; deny if open;")
	for i, want := range []int{1, 0, 2, 1, 2, 3} {
		if p[i].Which != want {
			t.Errorf("item %d is number %d of its kind, want %d", i, p[i].Which, want)
		}
	}
}

func TestFixed(t *testing.T) {
	for text, want := range map[string]values.Value{
		"7": 7, "true": 1, "false": 0, "none": 0, "ban": 4,
		"1 - 2": -1, "9223372036854775807 + 1": 9223372036854775807, "not true": 0, "join = join": 1, "1 < 1": 0, "1 <= 1": 1,
		"true and false": 0, "true or false": 1, "if false then 1 else if true then 2 else 3": 2,
	} {
		if told, fixed := read(t, "let a = "+text+";")[0].Cond.Fixed(); told != want || !fixed {
			t.Errorf("%q tells %d, %v, want %d", text, told, fixed, want)
		}
	}
	for _, text := range []string{"level", "self", "wants", "not open", "1 + need", "need + 1", "true or self", "x", "x = 1", "if true then 1 else x", "if open then 1 else 2"} {
		if told, fixed := read(t, "let x = 1; let a = "+text+";")[1].Cond.Fixed(); told != 0 || fixed {
			t.Errorf("%q tells %d, %v", text, told, fixed)
		}
	}
}

func TestTypeOfWords(t *testing.T) {
	for text, want := range map[string]types.Type{
		"7": types.Number, "level": types.Number, "rank": types.Number, "need": types.Number, "when": types.Number,
		"sender": types.Member, "target": types.Member, "wants": types.Member,
		"none": types.Member, "invite": types.Member, "join": types.Member, "leave": types.Member, "ban": types.Member,
		"self": types.Truth, "open": types.Truth, "true": types.Truth, "false": types.Truth,
		"if self then 1 else 2": types.Number, "if self then join else ban": types.Member, "if self then self else open": types.Truth,
		"1 - 2": types.Number, "1 < 2": types.Truth, "1 <= 2": types.Truth, "join = ban": types.Truth, "not self": types.Truth,
	} {
		if got := read(t, "let a = "+text+";")[0].Cond.typeOf(nil); got != want {
			t.Errorf("%q has the type %d, want %d", text, got, want)
		}
	}
	if got := typeOfWord(words.Semicolon); got != types.Wrong {
		t.Errorf("a semicolon has the type %d", got)
	}
	if got := typeOver(words.Semicolon, []types.Type{types.Truth}); got != types.Wrong {
		t.Errorf("a semicolon over a truth has the type %d", got)
	}
}

func TestErrorsGiveNoPolicy(t *testing.T) {
	for _, text := range []string{"$", "x", "allow if x;", "allow if 1;", "allow if not not not not not not not not not not not not not not not not not not not not self;"} {
		if p, e, _ := Read(text); p != nil || e == api.OK {
			t.Errorf("Read(%q) gave %d items and %d", text, len(p), e)
		}
	}
}
