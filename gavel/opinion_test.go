package gavel

import (
	"math/big"
	"math/rand"
	"strings"
	"testing"

	"gavel/api"
)

// shapes of the instructions: how many bytes follow, the greatest that may
// follow (-1: any, -2: hangs on the cells), what it takes off the stack (the
// lower first) and lays: n, t, m for types; e and c are for Equal and cells.
var shapes = map[byte]struct {
	follow, most int
	takes, lays  string
}{
	1: {8, -1, "", "n"}, 2: {1, 1, "", "t"}, 3: {1, 4, "", "m"}, 4: {1, 8, "", "f"},
	5: {1, -2, "c", ""}, 6: {1, -2, "", "c"}, 7: {0, -1, "nn", "n"}, 8: {0, -1, "nn", "n"},
	9: {0, -1, "ee", "t"}, 10: {0, -1, "nn", "t"}, 11: {0, -1, "nn", "t"}, 12: {0, -1, "t", "t"},
	13: {0, -1, "tt", "t"}, 14: {0, -1, "tt", "t"}, 15: {2, -1, "t", ""}, 16: {2, -1, "", ""},
	17: {1, -1, "", ""}, 18: {1, -1, "", ""},
}

// inOrder splits instructions, as far as they are whole and known.
func inOrder(b string) (apart []string, whole bool) {
	for len(b) > 0 {
		shape, known := shapes[b[0]]
		if !known || len(b) <= shape.follow {
			return apart, false
		}
		apart = append(apart, b[:1+shape.follow])
		b = b[1+shape.follow:]
	}
	return apart, true
}

// way is where a single way has come to, and with what: types as letters.
type way struct {
	at           int
	stack, cells string
}

// opinion says whether bytes are a code by going each way for itself, and
// holding what came to each place against each other afterwards.
type opinion struct {
	b      string
	begins map[int]string
	seen   map[way]bool
	come   map[int][]way
}

func mayBeCode(b string) bool {
	if len(b) < 4 || len(b) > 4000 || b[0] != 71 || b[1] > 24 {
		return false
	}
	apart, whole := inOrder(b[3:])
	o := &opinion{b: b, begins: map[int]string{}, seen: map[way]bool{}, come: map[int][]way{}}
	at := 3
	for _, in := range apart {
		most := shapes[in[0]].most
		if most == -2 {
			most = int(b[2]) - 1
		}
		whole = whole && (shapes[in[0]].most == -1 || int(in[1]) <= most)
		o.begins[at] = in
		at += len(in)
	}
	return whole && o.goOn(way{3, "", strings.Repeat("-", int(b[2]))}) && o.agree()
}

func (o *opinion) goOn(w way) bool {
	in, begins := o.begins[w.at]
	if !begins {
		return false
	}
	if o.seen[w] {
		return true
	}
	o.seen[w] = true
	o.come[w.at] = append(o.come[w.at], w)
	shape := shapes[in[0]]
	if len(w.stack) < len(shape.takes) {
		return false
	}
	next := way{w.at + len(in), w.stack[:len(w.stack)-len(shape.takes)], w.cells}
	taken := w.stack[len(next.stack):]
	switch shape.takes {
	case "c":
		next.cells = w.cells[:in[1]] + taken + w.cells[in[1]+1:]
	case "ee":
		if taken[0] != taken[1] {
			return false
		}
	default:
		if taken != shape.takes {
			return false
		}
	}
	switch shape.lays {
	case "f":
		next.stack += "nnnnmmmtt"[in[1]:][:1]
	case "c":
		next.stack += w.cells[in[1]:][:1]
	default:
		next.stack += shape.lays
	}
	if len(next.stack) > int(o.b[1]) || strings.Contains(next.stack, "-") {
		return false
	}
	far := next
	if in[0] == 15 || in[0] == 16 {
		far.at += int(in[1])*256 + int(in[2])
	}
	switch in[0] {
	case 15:
		return o.goOn(next) && o.goOn(far)
	case 17, 18:
		return true
	}
	return o.goOn(far)
}

// agree: stacks are the same at each place, and so is a cell that is asked there.
func (o *opinion) agree() bool {
	for at, ways := range o.come {
		in := o.begins[at]
		for _, w := range ways {
			if w.stack != ways[0].stack || in[0] == 6 && w.cells[in[1]] != ways[0].cells[in[1]] {
				return false
			}
		}
	}
	return true
}

// judged does a code by its bytes, with numbers that have no bounds.
func judged(b string, e api.Event, s api.State) api.Verdict {
	names := []string{"level", "rank", "need", "when", "sender", "target", "wants", "self", "open"}
	over := map[byte]string{7: "+", 8: "-", 9: "=", 10: "<", 11: "<=", 13: "and", 14: "or"}
	fields, cells := knownOf(e, s), map[byte]*big.Int{}
	var stack []*big.Int
	for at, steps := 3, 1; ; steps++ {
		in := b[at:][:1+shapes[b[at]].follow]
		at += len(in)
		left := max(0, len(stack)-len(shapes[in[0]].takes))
		taken := stack[left:]
		stack = stack[:left:left]
		switch in[0] {
		case 1:
			n := new(big.Int).SetBytes([]byte(in[1:]))
			if in[1] >= 128 {
				n.Sub(n, new(big.Int).Lsh(big.NewInt(1), 64))
			}
			stack = append(stack, n)
		case 2, 3:
			stack = append(stack, big.NewInt(int64(in[1])))
		case 4:
			stack = append(stack, fields[names[in[1]]])
		case 5:
			cells[in[1]] = taken[0]
		case 6:
			stack = append(stack, cells[in[1]])
		case 12:
			stack = append(stack, truth(taken[0].Sign() == 0))
		case 15, 16:
			if in[0] == 16 || taken[0].Sign() == 0 {
				at += int(in[1])<<8 + int(in[2])
			}
		case 17, 18:
			return api.Verdict{Allow: in[0] == 17, Rule: int(in[1]), Steps: steps}
		default:
			stack = append(stack, overTwo(over[in[0]], taken[0], taken[1]))
		}
	}
}

// holdCode holds Load and Judge against the second opinion.
func holdCode(t *testing.T, m *maker, b string) bool {
	t.Helper()
	c, e := Load(b)
	may := mayBeCode(b)
	if may != (c != nil) || may != (e == api.OK) || !may && e != api.ErrCode {
		t.Fatalf("Load(%q) = %v, %d, may be a code: %v", b, c, e, may)
	}
	if !may {
		return false
	}
	for range 4 {
		e, s := m.event()
		v := c.Judge(e, s)
		if want := judged(b, e, s); v != want || v.Steps > len(b) {
			t.Fatalf("%q of %+v in %+v: %+v, want %+v", b, e, s, v, want)
		}
	}
	return true
}

func TestP6P7AllShortCodes(t *testing.T) {
	m := &maker{Rand: rand.New(rand.NewSource(6))}
	vocabulary := []string{one, yes, no, join, self, put0, get0, add, equal, most, not, or, over(0), over(2), unless(0), unless(2), unless(3), allow, deny}
	yesses, noes := 0, 0
	each(vocabulary, nil, 4, func(apart []string) {
		if holdCode(t, m, coded(2, 1, apart...)) {
			yesses++
		} else {
			noes++
		}
	})
	if yesses < 1000 || noes < 1000 {
		t.Errorf("%d codes, and %d that are none", yesses, noes)
	}
}

// laying makes instructions that lay one of a type, and leave the rest as it is.
func (m *maker) laying(is byte, deep int) string {
	if deep > 0 {
		switch m.Intn(8) {
		case 0: // two ways that meet
			this, that := m.laying(is, deep-1), m.laying(is, deep-1)
			return m.laying('t', deep-1) + unless(len(this)+3) + this + over(len(that)) + that
		case 1:
			cell := byte(m.Intn(3))
			return m.laying(is, deep-1) + ins(api.Put, cell) + m.laying(is, 0) + ins(api.Put, (cell+1)%3) + ins(api.Get, cell)
		case 2: // a verdict that may come early
			return m.laying('t', deep-1) + unless(2) + ins(17+m.Intn(2), byte(m.Intn(256))) + m.laying(is, deep-1)
		case 3: // what no way comes to
			idle := m.laying('m', 1) + add
			return over(len(idle)) + idle + m.laying(is, deep-1)
		case 4, 5, 6:
			return m.telling(is, deep-1)
		}
	}
	switch is {
	case 'n':
		return m.pick(num(m.number()), num(m.number()), ins(api.Field, byte(m.Intn(4))))
	case 'm':
		return m.pick(ins(api.PushMember, byte(m.Intn(5))), ins(api.Field, byte(4+m.Intn(3))))
	}
	return m.pick(yes, no, ins(api.Field, byte(7+m.Intn(2))))
}

func (m *maker) telling(is byte, deep int) string {
	switch is {
	case 'm':
		return m.laying('m', deep)
	case 'n':
		return m.laying('n', deep) + m.laying('n', deep) + m.pick(add, sub)
	}
	of := "ntm"[m.Intn(3)]
	switch m.Intn(4) {
	case 0:
		return m.laying('t', deep) + not
	case 1:
		return m.laying('t', deep) + m.laying('t', deep) + m.pick(and, or)
	case 2:
		return m.laying('n', deep) + m.laying('n', deep) + m.pick(less, most)
	}
	return m.laying(of, deep) + m.laying(of, deep) + equal
}

// spoilt changes a code by a few bytes, or by an instruction more or less.
func (m *maker) spoilt(b string) string {
	apart, _ := inOrder(b[3:])
	i := m.Intn(len(apart))
	switch m.Intn(6) {
	case 0:
		at := m.Intn(len(b))
		return b[:at] + string([]byte{byte(m.Intn(256))}) + b[at+1:]
	case 1:
		apart[i] = ""
	case 2:
		apart[i] += m.pick(one, yes, join, add, not, equal, put0, get0, unless(0), over(0), allow)
	case 3:
		return b[:len(b)-1-m.Intn(3)]
	case 4:
		return b[:1] + string([]byte{byte(m.Intn(4))}) + b[2:]
	default:
		k := m.Intn(len(apart))
		apart[i], apart[k] = apart[k], apart[i]
	}
	return b[:3] + strings.Join(apart, "")
}

func TestP6P7P9CodesMadeAtRandom(t *testing.T) {
	m := &maker{Rand: rand.New(rand.NewSource(7))}
	yesses, noes := 0, 0
	for range 12000 {
		b := coded(24, 3, when(m.laying('t', 1+m.Intn(5))))
		if len(b) > 400 {
			continue
		}
		if !holdCode(t, m, b) {
			t.Fatalf("%q is no code", b)
		}
		for range 3 {
			b = m.spoilt(b)
			if len(b) < 4 || !holdCode(t, m, b) {
				noes++
				break
			}
			yesses++
		}
	}
	if yesses < 1000 || noes < 1000 {
		t.Errorf("%d codes, and %d that are none", yesses, noes)
	}
}

func TestP1P9AnyBytesAsCode(t *testing.T) {
	m := &maker{Rand: rand.New(rand.NewSource(8))}
	yesses := 0
	for i := range 40000 {
		b := make([]byte, m.Intn(16))
		for k := range b {
			b[k] = byte(m.Intn(20))
		}
		if i%5 == 0 {
			m.Read(b)
		}
		if i%2 == 0 {
			b = append([]byte{71, 4, 2}, b...)
		}
		if holdCode(t, m, string(b)) {
			yesses++
		}
	}
	if yesses < 200 {
		t.Errorf("only %d codes", yesses)
	}
	for b := range 256 {
		for _, size := range []int{1, 3, 100, api.MaxCode - 3, api.MaxCode - 2, 1 << 20} {
			code := coded(24, 255, strings.Repeat(string([]byte{byte(b)}), size))
			if c, e := Load(code); (c != nil) != (e == api.OK) {
				t.Errorf("Load of %d times %d: %v, %d", size, b, c, e)
			} else if c != nil && c.Judge(api.Event{}, hall()).Steps > len(code) {
				t.Errorf("%d times %d: more steps than bytes", size, b)
			}
		}
	}
}
