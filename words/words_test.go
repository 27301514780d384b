package words

import (
	"slices"
	"strings"
	"testing"
)

func kinds(list []Word) []Kind {
	var out []Kind
	for _, w := range list {
		out = append(out, w.Kind)
	}
	return out
}

func same(a, b []Kind) bool {
	if len(a) != len(b) {
		return false
	}
	for i := range a {
		if a[i] != b[i] {
			return false
		}
	}
	return true
}

func TestSplitKinds(t *testing.T) {
	for _, c := range []struct {
		text string
		want []Kind
	}{
		{"", []Kind{End}},
		{" \n\n ", []Kind{End}},
		{"1and", []Kind{Number, And, End}},
		{"and1", []Kind{And, Number, End}},
		{"1 2", []Kind{Number, Number, End}},
		{"<=", []Kind{AtMost, End}},
		{"< =", []Kind{Less, Equal, End}},
		{"<\n=", []Kind{Less, Equal, End}},
		{"<<==", []Kind{Less, AtMost, Equal, End}},
		{"=<=<", []Kind{Equal, AtMost, Less, End}},
		{"();+-", []Kind{LeftBracket, RightBracket, Semicolon, Plus, Minus, End}},
		{"allowif", []Kind{Own, End}},
		{"let allow deny if then else or and not", []Kind{Let, Allow, Deny, If, Then, Else, Or, And, Not, End}},
		{"true false none invite join leave ban", []Kind{True, False, None, Invite, Join, Leave, Ban, End}},
		{"level rank need when sender target wants self open", []Kind{Level, Rank, Need, When, Sender, Target, Wants, Self, Open, End}},
		{"lets le a z abcdefgh", []Kind{Own, Own, Own, Own, Own, End}},
	} {
		list, at, ok := Split(c.text)
		if !ok || at != 0 || !same(kinds(list), c.want) {
			t.Errorf("Split(%q) = %v, %d, %v, want %v", c.text, kinds(list), at, ok, c.want)
		}
	}
}

func TestSplitValues(t *testing.T) {
	list, _, ok := Split("  9223372036854775807 \nabcdefgh0007x")
	want := []Word{
		{Kind: Number, At: 2, Number: 9223372036854775807},
		{Kind: Own, At: 23, Name: "abcdefgh"},
		{Kind: Number, At: 31, Number: 7},
		{Kind: Own, At: 35, Name: "x"},
		{Kind: End, At: 36},
	}
	if !ok || len(list) != len(want) {
		t.Fatalf("Split gave %v, %v", list, ok)
	}
	for i := range want {
		if list[i] != want[i] {
			t.Errorf("word %d is %v, want %v", i, list[i], want[i])
		}
	}
	if list, _, _ := Split(strings.Repeat("0", 900) + "8"); len(list) != 2 || list[0].Number != 8 {
		t.Errorf("a number with 900 noughts ahead: %v", list)
	}
}

func TestSplitRefuses(t *testing.T) {
	for _, c := range []struct {
		text string
		at   int
	}{
		{"$", 0}, {"a\t", 1}, {"a\r\n", 1}, {"\x00", 0}, {"1.5", 1}, {"a_b", 1}, {"aB", 1}, {"Z", 0},
		{"a>b", 1}, {"`", 0}, {"{", 0}, {"/", 0}, {":", 0}, {"1 \xc3\xa9", 2}, {"\u00a0", 0}, {"a, b", 1},
		{"abcdefghi", 0}, {" let abcdefghij", 5}, {"allowifself", 0},
		{"9223372036854775808", 0}, {"1 + 18446744073709551617", 4}, {"00009223372036854775808", 0},
		{strings.Repeat("9", 1000), 0},
		{"abcdefghi $", 0}, {"$ abcdefghi", 0},
	} {
		if list, at, ok := Split(c.text); ok || at != c.at || list != nil {
			t.Errorf("Split(%.40q) = %v, %d, %v, want no words and %d", c.text, list, at, ok, c.at)
		}
	}
}

func TestSpelling(t *testing.T) {
	if len(spellings) != int(lastKeyword)+1 {
		t.Fatalf("%d spellings for %d kinds", len(spellings), int(lastKeyword)+1)
	}
	for k := firstSign; k <= lastKeyword; k++ {
		list, _, ok := Split(k.Spelling())
		if !ok || len(list) != 2 || list[0].Kind != k {
			t.Errorf("the spelling %q of kind %d is read as %v", k.Spelling(), k, list)
		}
	}
	for _, k := range []Kind{-1, End, Number, Own, lastKeyword + 1} {
		if k.Spelling() != "" {
			t.Errorf("kind %d is spelt %q", k, k.Spelling())
		}
	}
}

func TestStandsAlone(t *testing.T) {
	list, _, _ := Split("1 a true false none invite join leave ban level rank need when sender target wants self open")
	alone := map[Kind]int{}
	for _, w := range list[:len(list)-1] {
		alone[w.Kind] = 1
	}
	for k := End; k <= lastKeyword+1; k++ {
		if k.StandsAlone() != (alone[k] == 1) {
			t.Errorf("kind %d (%q) stands alone: %v", k, k.Spelling(), k.StandsAlone())
		}
	}
}

func TestMembersAndFields(t *testing.T) {
	for _, c := range []struct {
		text string
		of   func(Kind) (int, bool)
	}{
		{"none invite join leave ban", Kind.Member},
		{"level rank need when sender target wants self open", Kind.Field},
	} {
		list, _, _ := Split(c.text)
		run := kinds(list[:len(list)-1])
		for i, k := range run {
			if n, ok := c.of(k); n != i || !ok {
				t.Errorf("%q has the number %d, %v, want %d", k.Spelling(), n, ok, i)
			}
		}
		for k := End - 1; k <= lastKeyword+1; k++ {
			if n, ok := c.of(k); !ok && n != 0 || ok != slices.Contains(run, k) {
				t.Errorf("kind %d (%q) has the number %d, %v", k, k.Spelling(), n, ok)
			}
		}
	}
}
