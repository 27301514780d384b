package gavel

import (
	"math"
	"slices"
	"strings"
	"sync"
	"testing"

	"gavel/api"
)

func loaded(t *testing.T, b string) *Code {
	t.Helper()
	c, e := Load(b)
	if c == nil || e != api.OK {
		t.Fatalf("Load(%.60q) = %v, %d", b, c, e)
	}
	return c
}

// when allows by rule 1 what a condition tells true of, else it denies.
func when(cond ...string) string { return strings.Join(cond, "") + unless(2) + allow + deny }

func TestP7Verdicts(t *testing.T) {
	for what, c := range map[string]struct {
		b    string
		want api.Verdict
	}{
		"the document's":      {"\x47\x01\x00\x02\x01\x0f\x00\x02\x11\x07\x12\x00", api.Verdict{Allow: true, Rule: 7, Steps: 3}},
		"deny":                {coded(0, 0, deny), api.Verdict{Steps: 1}},
		"deny 255":            {coded(0, 0, ins(api.Deny, 255)), api.Verdict{Rule: 255, Steps: 1}},
		"allow 0":             {coded(0, 0, ins(api.Allow, 0)), api.Verdict{Allow: true, Steps: 1}},
		"allow 255":           {coded(0, 0, ins(api.Allow, 255), deny), api.Verdict{Allow: true, Rule: 255, Steps: 1}},
		"passed over":         {coded(1, 0, when(no)), api.Verdict{Steps: 3}},
		"not passed over":     {coded(1, 0, when(yes)), api.Verdict{Allow: true, Rule: 1, Steps: 3}},
		"always passed over":  {coded(1, 0, over(2), allow, deny), api.Verdict{Steps: 2}},
		"passed over nothing": {coded(1, 0, over(0), allow, deny), api.Verdict{Allow: true, Rule: 1, Steps: 2}},
		"unless over nothing": {coded(1, 0, no, unless(0), allow, deny), api.Verdict{Allow: true, Rule: 1, Steps: 3}},
		"over 256 and more":   {coded(1, 0, over(300), strings.Repeat(allow, 150), deny), api.Verdict{Steps: 2}},
		"jumps in a chain":    {coded(1, 0, over(5), deny, over(2), over(2), deny, allow), api.Verdict{Allow: true, Rule: 1, Steps: 3}},
		"left over":           {coded(3, 0, one, join, yes, allow), api.Verdict{Allow: true, Rule: 1, Steps: 4}},
		"two ways, this":      {coded(1, 0, yes, unless(5), yes, over(2), no, unless(2), allow, deny), api.Verdict{Allow: true, Rule: 1, Steps: 6}},
		"two ways, that":      {coded(1, 0, no, unless(5), yes, over(2), no, unless(2), allow, deny), api.Verdict{Steps: 5}},
		"the most steps":      {coded(1, 0, strings.Repeat(yes+unless(0), 799), deny), api.Verdict{Steps: 1599}},
	} {
		if v := loaded(t, c.b).Judge(api.Event{}, api.State{}); v != c.want {
			t.Errorf("%s: %+v, want %+v", what, v, c.want)
		}
	}
}

func TestP7Conditions(t *testing.T) {
	two := num(2)
	most64, least64 := num(math.MaxInt64), num(math.MinInt64)
	cells := []string{}
	for i := range 255 {
		cells = append(cells, num(int64(i*3)), ins(api.Put, byte(i)))
	}
	for what, c := range map[string]struct {
		cond string
		is   bool
	}{
		"true":            {yes, true},
		"false":           {no, false},
		"not true":        {yes + not, false},
		"not false":       {no + not, true},
		"and":             {yes + yes + and, true},
		"and false":       {yes + no + and, false},
		"false and":       {no + yes + and, false},
		"neither, and":    {no + no + and, false},
		"or":              {yes + yes + or, true},
		"or false":        {yes + no + or, true},
		"false or":        {no + yes + or, true},
		"neither, or":     {no + no + or, false},
		"less":            {one + two + less, true},
		"not less":        {two + one + less, false},
		"not less, equal": {two + two + less, false},
		"at most":         {one + two + most, true},
		"not at most":     {two + one + most, false},
		"at most, equal":  {two + two + most, true},
		"signs":           {num(-1) + one + less, true},
		"all of 64 bits":  {least64 + most64 + less, true},
		"eight bytes":     {num(0x0102030405060708) + num(0x0102030405060700) + num(8) + add + equal, true},
		"in their order":  {num(1<<56) + num(255) + less, false},
		"equal numbers":   {two + two + equal, true},
		"other numbers":   {two + num(2+1<<32) + equal, false},
		"equal members":   {join + join + equal, true},
		"other members":   {join + ins(api.PushMember, 4) + equal, false},
		"equal truths":    {no + no + equal, true},
		"other truths":    {yes + no + equal, false},
		"sum":             {one + two + add + num(3) + equal, true},
		"rest":            {num(7) + two + sub + num(5) + equal, true},
		"rest of less":    {two + num(7) + sub + num(-5) + equal, true},
		"above":           {most64 + one + add + most64 + equal, true},
		"above by minus":  {one + least64 + sub + most64 + equal, true},
		"below":           {least64 + one + sub + least64 + equal, true},
		"below by plus":   {least64 + num(-1) + add + least64 + equal, true},
		"below, and back": {least64 + one + sub + one + add + least64 + equal, false},
		"of a cell":       {one + put0 + get0 + get0 + add + two + equal, true},
		"put again":       {one + put0 + yes + put0 + no + put0 + get0, false},
		"cells apart":     {strings.Join(cells, "") + ins(api.Get, 254) + ins(api.Get, 1) + sub + num(759) + equal, true},
		"the top is put":  {one + two + put0 + get0 + less, true},
	} {
		apart, _ := inOrder(c.cond)
		want := api.Verdict{Allow: c.is, Steps: len(apart) + 2}
		if c.is {
			want.Rule = 1
		}
		if v := loaded(t, coded(24, 255, when(c.cond))).Judge(api.Event{}, api.State{}); v != want {
			t.Errorf("%s: %+v, want %+v", what, v, want)
		}
	}
}

func TestP7Fields(t *testing.T) {
	e := api.Event{Sender: "ann", Target: "bob", Wants: api.Leave, Need: -5, When: math.MaxInt64}
	twice := api.Event{Sender: "cat", Target: "cat", Wants: 5}
	open := hall()
	open.Open = true
	for _, c := range []struct {
		field int
		e     api.Event
		s     api.State
		lay   string
	}{
		{api.FieldLevel, e, hall(), num(50)}, {api.FieldRank, e, hall(), num(-5)},
		{api.FieldNeed, e, hall(), num(-5)}, {api.FieldWhen, e, hall(), num(math.MaxInt64)},
		{api.FieldSender, e, hall(), join}, {api.FieldTarget, e, hall(), ins(api.PushMember, api.Ban)}, {api.FieldWants, e, hall(), ins(api.PushMember, api.Leave)},
		{api.FieldSelf, e, hall(), no}, {api.FieldOpen, e, hall(), no},
		{api.FieldLevel, twice, open, num(10)}, {api.FieldRank, twice, open, num(10)},
		{api.FieldSender, twice, open, ins(api.PushMember, api.None)}, {api.FieldTarget, twice, open, ins(api.PushMember, api.None)}, {api.FieldWants, twice, open, ins(api.PushMember, api.None)},
		{api.FieldSelf, twice, open, yes}, {api.FieldOpen, twice, open, yes},
	} {
		code := loaded(t, coded(2, 0, when(ins(api.Field, byte(c.field)), c.lay, equal)))
		if v := code.Judge(c.e, c.s); v != (api.Verdict{Allow: true, Rule: 1, Steps: 5}) {
			t.Errorf("field %d of %+v: %+v", c.field, c.e, v)
		}
	}
}

// A code that Load did not give says nothing, and does not panic.
func TestP1JudgeOfNoCode(t *testing.T) {
	var none *Code
	for _, c := range []*Code{none, {}} {
		if v := c.Judge(api.Event{Sender: "ann"}, hall()); v != (api.Verdict{}) {
			t.Errorf("Judge = %+v", v)
		}
	}
}

func TestP2JudgeLeavesWhatIsHandedIn(t *testing.T) {
	levels := append(hall().Levels, api.Level{User: "spare", N: 1})
	members := append(hall().Members, api.Member{User: "spare", Is: api.Ban})
	levelsBefore, membersBefore := slices.Clone(levels), slices.Clone(members)
	s := api.State{Levels: levels[:len(levels)-1], Members: members[:len(members)-1], Default: 2}
	e := api.Event{Sender: "ann", Target: "spare"}
	code := loaded(t, coded(3, 1, when(level, num(50), equal, put0, ins(api.Field, api.FieldTarget), ins(api.PushMember, 0), equal, get0, and)))
	for range 3 {
		if v := code.Judge(e, s); v != (api.Verdict{Allow: true, Rule: 1, Steps: 11}) {
			t.Errorf("Judge = %+v", v)
		}
	}
	if !slices.Equal(levels, levelsBefore) || !slices.Equal(members, membersBefore) {
		t.Errorf("the lists are %v and %v now", levels, members)
	}
	levels[0].N = 49
	if v := code.Judge(e, s); v != (api.Verdict{Steps: 11}) {
		t.Errorf("with another level: %+v", v)
	}
}

// The cells and the stack of one judgement are none of another's, not even of one that goes on at the same time.
func TestP2CodesJudgeApart(t *testing.T) {
	b := coded(2, 1, "\x04\x08", put0, join, put0, "\x04\x08", unless(2), allow, level, num(50), less, unless(2), ins(api.Allow, 2), deny)
	first, second, other := loaded(t, b), loaded(t, b), loaded(t, coded(0, 0, deny))
	open := hall()
	open.Open = true
	var done sync.WaitGroup
	for _, c := range []struct {
		code *Code
		e    api.Event
		s    api.State
		want api.Verdict
	}{
		{first, api.Event{}, open, api.Verdict{Allow: true, Rule: 1, Steps: 7}},
		{first, api.Event{}, hall(), api.Verdict{Allow: true, Rule: 2, Steps: 11}},
		{first, api.Event{Sender: "ann"}, hall(), api.Verdict{Steps: 11}},
		{second, api.Event{}, open, api.Verdict{Allow: true, Rule: 1, Steps: 7}},
		{second, api.Event{Sender: "ann"}, hall(), api.Verdict{Steps: 11}},
		{other, api.Event{}, open, api.Verdict{Steps: 1}},
	} {
		done.Go(func() {
			for range 200 {
				if v := c.code.Judge(c.e, c.s); v != c.want {
					t.Errorf("Judge = %+v, want %+v", v, c.want)
				}
			}
		})
	}
	done.Wait()
}
