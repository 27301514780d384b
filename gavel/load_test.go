package gavel

import (
	"math"
	"strconv"
	"strings"
	"testing"

	"gavel/api"
)

func ins(op int, follows ...byte) string { return string(append([]byte{byte(op)}, follows...)) }

func num(n int64) string {
	b := []byte{api.PushInt}
	for shift := 56; shift >= 0; shift -= 8 {
		b = append(b, byte(n>>shift))
	}
	return string(b)
}

func unless(far int) string { return ins(api.JumpUnless, byte(far>>8), byte(far)) }
func over(far int) string   { return ins(api.Jump, byte(far>>8), byte(far)) }

// Instructions that tests are made of.
const (
	one   = "\x01\x00\x00\x00\x00\x00\x00\x00\x01"
	yes   = "\x02\x01"
	no    = "\x02\x00"
	join  = "\x03\x02"
	level = "\x04\x00"
	self  = "\x04\x07"
	put0  = "\x05\x00"
	get0  = "\x06\x00"
	add   = "\x07"
	sub   = "\x08"
	equal = "\x09"
	less  = "\x0a"
	most  = "\x0b"
	not   = "\x0c"
	and   = "\x0d"
	or    = "\x0e"
	allow = "\x11\x01"
	deny  = "\x12\x00"
)

func coded(depth, cells int, instructions ...string) string {
	return "G" + string([]byte{byte(depth), byte(cells)}) + strings.Join(instructions, "")
}

func taken(t *testing.T, cases map[string]string) {
	t.Helper()
	for what, b := range cases {
		if c, e := Load(b); c == nil || e != api.OK {
			t.Errorf("%s: Load(%.60q) = %v, %d, want it taken", what, b, c, e)
		}
	}
}

func noCode(t *testing.T, cases map[string]string) {
	t.Helper()
	for what, b := range cases {
		if c, e := Load(b); c != nil || e != api.ErrCode {
			t.Errorf("%s: Load(%.60q) = %v, %d, want it refused", what, b, c, e)
		}
	}
}

func TestP6Head(t *testing.T) {
	taken(t, map[string]string{
		"the least":         coded(0, 0, deny),
		"the deepest":       coded(api.MaxStack, 255, allow),
		"the longest":       coded(0, 0, deny, strings.Repeat(add, api.MaxCode-5)),
		"the document's":    "\x47\x01\x00\x02\x01\x0f\x00\x02\x11\x07\x12\x00",
		"any rule's number": coded(0, 0, ins(api.Allow, 255), ins(api.Deny, 255)),
	})
	noCode(t, map[string]string{
		"nothing":               "",
		"a sign alone":          "G",
		"no cells told":         "G\x00",
		"no instructions":       "G\x00\x00",
		"another sign":          "F\x00\x00" + deny,
		"a small letter":        "g\x00\x00" + deny,
		"too deep by one":       coded(api.MaxStack+1, 0, deny),
		"too deep by far":       coded(255, 0, deny),
		"too long by one":       coded(0, 0, deny, strings.Repeat(add, api.MaxCode-4)),
		"far too long":          coded(0, 0, strings.Repeat(deny, 1<<20)),
		"a depth of 0 told":     "\x47\x00\x00\x02\x01\x0f\x00\x02\x11\x07\x12\x00",
		"without its last two":  "\x47\x01\x00\x02\x01\x0f\x00\x02\x11\x07",
		"something ahead of it": " " + coded(0, 0, deny),
	})
}

// Behind deny nothing is reached: only what an instruction is made of counts there.
func TestP6InstructionsAreWhole(t *testing.T) {
	good, bad := map[string]string{}, map[string]string{}
	follow := map[int]int{api.PushInt: 8, api.PushBool: 1, api.PushMember: 1, api.Field: 1, api.Put: 1, api.Get: 1, api.JumpUnless: 2, api.Jump: 2, api.Allow: 1, api.Deny: 1}
	for op := range 256 {
		name := "instruction " + strconv.Itoa(op)
		whole := ins(op, make([]byte, follow[op])...)
		if op < api.PushInt || op > api.Deny {
			bad[name] = coded(1, 1, deny, whole)
			continue
		}
		good[name] = coded(1, 1, deny, whole)
		good[name+" ahead of another"] = coded(1, 1, deny, whole, allow)
		for missing := 1; missing < len(whole); missing++ {
			bad[name+" cut by "+strconv.Itoa(missing)] = coded(1, 1, deny, whole[:len(whole)-missing])
		}
	}
	taken(t, good)
	noCode(t, bad)
	noCode(t, map[string]string{
		"a number cut, and reached":  coded(1, 0, one[:8]),
		"a verdict cut, and reached": coded(0, 0, deny[:1]),
		"a jump cut, and reached":    coded(0, 0, "\x10\x00"),
		"no such, and reached":       coded(0, 0, "\x13"),
	})
}

func TestP6NumbersMayBe(t *testing.T) {
	for what, c := range map[string]struct {
		op, most, cells int
	}{
		"a truth":         {api.PushBool, 1, 0},
		"a member":        {api.PushMember, 4, 0},
		"a field":         {api.Field, 8, 0},
		"a cell put":      {api.Put, 2, 3},
		"the last put":    {api.Put, 254, 255},
		"a cell got":      {api.Get, 2, 3},
		"the last got":    {api.Get, 254, 255},
		"no cell put":     {api.Put, -1, 0},
		"no cell got":     {api.Get, -1, 0},
		"a rule allowing": {api.Allow, 255, 0},
		"a rule denying":  {api.Deny, 255, 0},
	} {
		for n := range 256 {
			b := coded(1, c.cells, deny, ins(c.op, byte(n)))
			if n <= c.most {
				taken(t, map[string]string{what: b})
			} else {
				noCode(t, map[string]string{what: b})
			}
		}
	}
	noCode(t, map[string]string{
		"a truth of 2, reached":  coded(1, 0, ins(api.PushBool, 2), deny),
		"a member of 5, reached": coded(1, 0, ins(api.PushMember, 5), deny),
		"a field of 9, reached":  coded(1, 0, ins(api.Field, 9), deny),
		"a cell of 1, reached":   coded(1, 1, yes, ins(api.Put, 1), deny),
	})
	taken(t, map[string]string{
		"any number": coded(1, 0, num(math.MinInt64), deny), "a negative one": coded(1, 0, num(-1), deny),
	})
}

func TestP6Depth(t *testing.T) {
	full := strings.Repeat(yes, api.MaxStack)
	taken(t, map[string]string{
		"as deep as told":          coded(api.MaxStack, 0, full, deny),
		"two as told":              coded(2, 0, yes, yes, and, deny),
		"up and down again":        coded(1, 1, yes, put0, get0, not, put0, yes, deny),
		"too deep, but not come":   coded(0, 0, deny, yes, yes),
		"by a cell as told":        coded(1, 1, yes, put0, get0, deny),
		"left over at the verdict": coded(3, 0, one, yes, join, deny),
	})
	noCode(t, map[string]string{
		"one above":           coded(api.MaxStack, 0, full, yes, deny),
		"a number, none told": coded(0, 0, one, deny),
		"a truth":             coded(0, 0, yes, deny),
		"a member":            coded(0, 0, join, deny),
		"a field":             coded(0, 0, level, deny),
		"a cell":              coded(1, 1, yes, put0, get0, get0, deny),
		"two, one told":       coded(1, 0, yes, yes, and, deny),
		"on one way":          coded(1, 0, yes, unless(2), allow, yes, yes, deny),
	})
}

func TestP6Jumps(t *testing.T) {
	taken(t, map[string]string{
		"over nothing":           coded(0, 0, over(0), deny),
		"unless over nothing":    coded(1, 0, yes, unless(0), deny),
		"to the last":            coded(0, 0, over(2), allow, deny),
		"far":                    coded(0, 0, over(3900), strings.Repeat(add, 3900), deny),
		"in a chain":             coded(0, 0, over(2), deny, over(2), deny, allow),
		"wherever, but not come": coded(0, 0, deny, over(65535), unless(65535), over(1)),
		"into one, but not come": coded(0, 0, deny, over(1), deny),
		"to the end, not come":   coded(0, 0, deny, over(0)),
		"over what never ends":   coded(1, 0, over(2), yes, deny),
	})
	noCode(t, map[string]string{
		"to the end":              coded(0, 0, over(2), deny),
		"to the end at once":      coded(0, 0, over(0)),
		"beyond":                  coded(0, 0, over(3), deny),
		"far beyond":              coded(0, 0, over(65535), deny),
		"into an instruction":     coded(0, 0, over(1), deny, deny),
		"into a jump":             coded(0, 0, over(1), over(0), deny),
		"unless, to the end":      coded(1, 0, yes, unless(2), allow),
		"unless, beyond":          coded(1, 0, yes, unless(300), allow, deny),
		"unless, inside":          coded(1, 0, yes, unless(1), allow, deny),
		"unless, itself last":     coded(1, 0, yes, unless(0)),
		"the greater byte counts": coded(0, 0, over(256), deny, deny),
	})
}

func TestP6EachWayEnds(t *testing.T) {
	noCode(t, map[string]string{
		"a number last":          coded(1, 0, one),
		"a truth last":           coded(1, 0, yes),
		"a put last":             coded(1, 1, yes, put0),
		"an and last":            coded(2, 0, yes, yes, and),
		"behind a verdict":       coded(1, 0, yes, unless(2), allow, yes),
		"the way passed over to": coded(1, 0, yes, unless(2), deny, yes, not),
	})
	taken(t, map[string]string{
		"what is not come has no end": coded(2, 1, deny, yes, put0, and, one),
		"a verdict on each way":       coded(1, 0, yes, unless(2), allow, self, unless(2), allow, deny),
	})
}

func TestP6Types(t *testing.T) {
	of := map[byte][]string{'n': {one, level, ins(api.Field, 3)}, 't': {yes, no, self, ins(api.Field, 8)}, 'm': {join, ins(api.Field, 4), ins(api.Field, 6)}}
	wants := map[string][2]string{ // what it takes, the lower first, and what it lays
		add: {"nn", "n"}, sub: {"nn", "n"}, less: {"nn", "t"}, most: {"nn", "t"},
		and: {"tt", "t"}, or: {"tt", "t"}, not: {"t", "t"}, unless(0): {"t", ""},
	}
	check := func(what, b string, may bool) {
		t.Helper()
		if may {
			taken(t, map[string]string{what: b})
		} else {
			noCode(t, map[string]string{what: b})
		}
	}
	for op, w := range wants {
		check("nothing there", coded(4, 0, op, deny), false)
		for a, lays := range of {
			for _, lay := range lays {
				check("one there", coded(4, 0, lay, op, deny), w[0] == string(a))
			}
			for b, others := range of {
				top := string(b) == w[0] || string([]byte{a, b}) == w[0]
				check("two there", coded(4, 0, lays[0], others[len(others)-1], op, deny), top)
				check("equal", coded(4, 0, lays[0], others[0], equal, not, deny), a == b)
			}
		}
	}
	for op, w := range wants {
		for a, lays := range of {
			b := coded(4, 0, of[w[0][0]][0], of[w[0][0]][1], op, lays[0], equal, deny)
			if len(w[0]) == 2 {
				check("what it lays", b, w[1] == string(a))
			}
		}
	}
	noCode(t, map[string]string{
		"equal of nothing":  coded(4, 0, equal, deny),
		"equal of one":      coded(4, 0, yes, equal, deny),
		"put of nothing":    coded(4, 1, put0, deny),
		"put of one, twice": coded(4, 1, yes, put0, put0, deny),
	})
}

func TestP6FieldsHaveTheirTypes(t *testing.T) {
	lays := map[byte]string{'n': one, 'm': join, 't': yes}
	for field, is := range []byte("nnnnmmmtt") {
		for other, lay := range lays {
			b := coded(2, 0, ins(api.Field, byte(field)), lay, equal, deny)
			if other == is {
				taken(t, map[string]string{"a field and its like": b})
			} else {
				noCode(t, map[string]string{"a field and another type": b})
			}
		}
	}
}

func TestP6Cells(t *testing.T) {
	put1, get1 := ins(api.Put, 1), ins(api.Get, 1)
	taken(t, map[string]string{
		"put and got":             coded(1, 1, yes, put0, get0, not, deny),
		"got twice":               coded(2, 1, one, put0, get0, get0, add, deny),
		"of another type then":    coded(1, 1, one, put0, yes, put0, get0, not, deny),
		"each its own":            coded(2, 2, one, put0, yes, put1, get1, not, get0, deny),
		"the last one":            coded(1, 255, yes, ins(api.Put, 254), ins(api.Get, 254), deny),
		"put on both ways":        coded(1, 1, self, unless(7), yes, put0, over(4), no, put0, get0, not, deny),
		"put ahead of the ways":   coded(1, 1, yes, put0, self, unless(4), no, put0, get0, not, deny),
		"put on one, not asked":   coded(1, 1, self, unless(4), yes, put0, deny),
		"two types, not asked":    coded(1, 1, self, unless(7), yes, put0, over(4), join, put0, deny),
		"two types, put again":    coded(1, 1, self, unless(7), yes, put0, over(4), join, put0, one, put0, get0, deny),
		"another on one way":      coded(1, 2, yes, put0, self, unless(4), no, put1, get0, not, deny),
		"asked on the way it was": coded(1, 1, self, unless(9), yes, put0, get0, unless(0), deny),
	})
	noCode(t, map[string]string{
		"never put":              coded(1, 1, get0, deny),
		"another put":            coded(1, 2, yes, put1, get0, deny),
		"a later put":            coded(1, 2, yes, put0, get1, deny),
		"put behind":             coded(1, 1, get0, yes, put0, deny),
		"put where none comes":   coded(1, 1, over(4), yes, put0, get0, deny),
		"put on one way":         coded(1, 1, self, unless(4), yes, put0, get0, deny),
		"put on the other":       coded(1, 1, self, unless(3), over(4), yes, put0, get0, deny),
		"two types":              coded(1, 1, self, unless(7), yes, put0, over(4), join, put0, get0, deny),
		"another type on one":    coded(1, 1, yes, put0, self, unless(4), join, put0, get0, deny),
		"of its type, not truth": coded(1, 1, one, put0, get0, not, deny),
		"of its later type":      coded(1, 1, yes, put0, one, put0, get0, not, deny),
		"forgot on three ways":   coded(1, 1, self, unless(9), self, unless(4), yes, put0, get0, deny),
		"forgot, then met again": coded(1, 1, self, unless(4), yes, put0, self, unless(0), get0, deny),
		"two of three types":     coded(1, 1, self, unless(19), self, unless(7), yes, put0, over(18), yes, put0, over(11), one, put0, get0, deny),
	})
}

func TestP6WaysThatMeet(t *testing.T) {
	taken(t, map[string]string{
		"both lay a truth": coded(1, 0, self, unless(5), yes, over(2), no, unless(2), allow, deny),
		"both lay two":     coded(3, 0, one, self, unless(12), one, over(9), one, less, unless(2), allow, deny),
		"both lay none":    coded(1, 0, self, unless(3), over(0), deny),
	})
	noCode(t, map[string]string{
		"one lays more":          coded(2, 0, self, unless(2), yes, deny),
		"one lays less":          coded(2, 0, yes, self, unless(3), unless(0), deny),
		"other types":            coded(2, 0, self, unless(5), yes, over(2), join, deny),
		"other types below":      coded(3, 0, self, unless(7), yes, yes, over(4), join, yes, deny),
		"equal but by a field":   coded(2, 0, self, unless(5), level, over(2), self, deny),
		"three ways, one other":  coded(2, 0, self, unless(5), yes, over(12), self, unless(5), no, over(2), join, deny),
		"a jump with the rest":   coded(2, 0, yes, self, unless(3), over(3), unless(0), deny),
		"met by a longer detour": coded(2, 0, self, unless(8), over(0), yes, over(0), deny),
	})
}
