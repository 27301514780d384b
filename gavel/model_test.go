package gavel

import (
	"math/rand"
	"strconv"
	"strings"
	"testing"

	"gavel/api"
)

// How tightly a form of condition binds: 0 is a whole condition, 6 a one.
const (
	whole = iota
	chosen
	joined
	negated
	related
	summed
	alone
)

// made is a condition that was made at random: how it is written, and what
// the document says of it.
type made struct {
	words        []string
	plain        string
	binds        int
	parts, depth int
	is           string // "number", "truth", "member" or "" for none
}

type maker struct {
	*rand.Rand
	lets map[string]string // the types of the names that were given
	free bool              // whether types and names may be wrong
	slim bool              // whether conditions are deep on one side alone
}

func (m *maker) pick(of ...string) string { return of[m.Intn(len(of))] }

// within puts brackets around a condition where the grammar asks for them, and now and then where it does not.
func (m *maker) within(c made, binds int) []string {
	w := c.words
	for c.binds < binds || m.Intn(12) == 0 {
		w = append(append([]string{"("}, w...), ")")
		binds = whole
	}
	return w
}

func (m *maker) single(is string) made {
	var word, plain string
	switch is {
	case "number":
		word = m.pick("level", "rank", "need", "when", strconv.Itoa(m.Intn(100)), "00"+strconv.Itoa(m.Intn(10)), "9223372036854775807")
	case "truth":
		word = m.pick("self", "open", "true", "false")
	default:
		word = m.pick("sender", "target", "wants", "none", "invite", "join", "leave", "ban")
	}
	if m.Intn(4) == 0 {
		for _, name := range []string{"a", "b", "c", "d", "e"} {
			if t, ok := m.lets[name]; ok && t == is || m.free && m.Intn(20) == 0 {
				word = name
				is = t
			}
		}
	}
	plain = word
	if n, err := strconv.ParseInt(word, 10, 64); err == nil {
		plain = strconv.FormatInt(n, 10)
	}
	return made{[]string{word}, plain, alone, 1, 1, is}
}

func (m *maker) beside(deep int) int {
	if m.slim {
		return 0
	}
	return deep - 1
}

func (m *maker) two(op, wants, gives string, binds, left, right, deep int) made {
	a, b := m.cond(wants, deep-1), m.cond(wants, m.beside(deep))
	w := append(append(append([]string{}, m.within(a, left)...), op), m.within(b, right)...)
	is := gives
	if a.is == "" || a.is != b.is || op != "=" && a.is != wants {
		is = ""
	}
	return made{w, "(" + a.plain + " " + op + " " + b.plain + ")", binds, a.parts + b.parts + 1, max(a.depth, b.depth) + 1, is}
}

func (m *maker) not(deep int) made {
	a := m.cond("truth", deep-1)
	is := a.is
	if is != "truth" {
		is = ""
	}
	return made{append([]string{"not"}, m.within(a, negated)...), "(not " + a.plain + ")", negated, a.parts + 1, a.depth + 1, is}
}

func (m *maker) whether(is string, deep int) made {
	a, b, c := m.cond("truth", m.beside(deep)), m.cond(is, m.beside(deep)), m.cond(is, deep-1)
	w := append([]string{"if"}, m.within(a, whole)...)
	w = append(append(w, "then"), m.within(b, whole)...)
	w = append(append(w, "else"), m.within(c, whole)...)
	is = b.is
	if a.is != "truth" || b.is != c.is {
		is = ""
	}
	return made{w, "(if " + a.plain + " then " + b.plain + " else " + c.plain + ")", whole, a.parts + b.parts + c.parts + 1, max(a.depth, b.depth, c.depth) + 1, is}
}

func (m *maker) cond(is string, deep int) made {
	if m.free && m.Intn(40) == 0 {
		is = m.pick("number", "truth", "member")
	}
	if deep <= 0 || !m.slim && m.Intn(6) == 0 {
		return m.single(is)
	}
	if m.Intn(6) == 0 {
		return m.whether(is, deep)
	}
	switch is {
	case "number":
		return m.two(m.pick("+", "-"), is, is, summed, summed, alone, deep)
	case "member":
		return m.single(is)
	}
	switch m.Intn(5) {
	case 0:
		return m.two("or", is, is, chosen, chosen, joined, deep)
	case 1:
		return m.two("and", is, is, joined, joined, negated, deep)
	case 2:
		return m.not(deep)
	case 3:
		return m.two(m.pick("<", "<="), "number", is, related, summed, summed, deep)
	}
	return m.two("=", m.pick("number", "truth", "member"), is, related, summed, summed, deep)
}

func isName(word string) bool { return word[0] >= 'a' && word[0] <= 'z' }

// gap is what stands between two words: nothing, only where they can touch.
func (m *maker) gap(before, word string) string {
	if before != "" && isName(before) && isName(word) {
		return m.pick(" ", "\n", "  ", " \n ")
	}
	return m.pick("", "", " ", "\n")
}

// made policy: its text, and what Print must answer.
type wanted struct {
	text, plain string
	e           api.Errno
	at          int
}

type firsts [api.ErrCode + 1]int

// note keeps the place of an error, if it is the first of its kind.
func (f *firsts) note(e api.Errno, at int) {
	if f[e] == 0 {
		f[e] = at + 1
	}
}

func (m *maker) policy(items, deep int) wanted {
	m.lets = map[string]string{}
	var f firsts
	text, plain, before := "", "", ""
	parts, lets, rules := 0, 0, 0
	for range items {
		head, is := []string{m.pick("allow", "deny"), "if"}, "truth"
		if m.Intn(3) == 0 && (len(m.lets) < 5 || m.free) {
			name := "abcde"[len(m.lets)%5:][:1]
			head, is = []string{"let", name, "="}, m.pick("number", "truth", "member")
		}
		c := m.cond(is, deep)
		item := len(text)
		for i, word := range append(append(head[:len(head):len(head)], c.words...), ";") {
			text += m.gap(before, word)
			before = word
			if i == 0 {
				item = len(text)
			}
			given := m.lets[word] != ""
			if len(word) == 1 && isName(word) && given == (i == 1) {
				f.note(api.ErrName, len(text))
			}
			text += word
		}
		parts += c.parts
		if head[0] == "let" {
			lets++
		} else {
			rules++
		}
		if c.depth > api.MaxDepth || parts > api.MaxParts || lets > api.MaxLets || rules > api.MaxRules {
			f.note(api.ErrMany, item)
		}
		if c.is == "" || head[0] != "let" && c.is != "truth" {
			f.note(api.ErrType, item)
		}
		if head[0] == "let" {
			m.lets[head[1]] = c.is
			if c.is == "" {
				m.lets[head[1]] = "wrong"
			}
		}
		plain += strings.Join(head, " ") + " " + c.plain + ";\n"
	}
	for e := api.ErrMany; e <= api.ErrType; e++ {
		if f[e] > 0 {
			return wanted{text, "", e, f[e] - 1}
		}
	}
	return wanted{text, plain, api.OK, 0}
}

func TestP3P4PoliciesMadeAtRandom(t *testing.T) {
	m := &maker{Rand: rand.New(rand.NewSource(1))}
	seen := map[api.Errno]int{}
	for i := range 6000 {
		m.free = i%2 == 0
		m.slim = i%3 == 0
		items, deep := 1+m.Intn(6), 1+m.Intn(6)
		if m.slim && i%4 == 0 {
			items, deep = 18+m.Intn(20), m.Intn(2)
		} else if m.slim {
			deep = 15 + m.Intn(8)
		}
		w := m.policy(items, deep)
		if len(w.text) > api.MaxText {
			w.plain, w.e, w.at = "", api.ErrLong, 0
		}
		seen[w.e]++
		if s, e, at := Print(w.text); s != w.plain || e != w.e || at != w.at {
			t.Fatalf("Print(%q) = %q, %d, %d, want %q, %d, %d", w.text, s, e, at, w.plain, w.e, w.at)
		}
		if e, at := Check(w.text); e != w.e || at != w.at {
			t.Fatalf("Check(%q) = %d, %d, want %d, %d", w.text, e, at, w.e, w.at)
		}
		if w.e == api.OK && len(w.plain) <= api.MaxText {
			if s, e, _ := Print(w.plain); s != w.plain || e != api.OK {
				t.Fatalf("Print(%q) = %q, %d", w.plain, s, e)
			}
		}
	}
	for _, e := range []api.Errno{api.OK, api.ErrLong, api.ErrMany, api.ErrName, api.ErrType} {
		if seen[e] < 50 {
			t.Errorf("only %d policies with the answer %d were made", seen[e], e)
		}
	}
}

// Any bytes: the calls end, and beside an error there is nothing but its place.
func TestP1AnyBytes(t *testing.T) {
	m := &maker{Rand: rand.New(rand.NewSource(2)), free: true}
	hold := func(text string) {
		s, e, at := Print(text)
		if e2, at2 := Check(text); e2 != e || at2 != at {
			t.Fatalf("Check(%q) = %d, %d, Print has %d, %d", text, e2, at2, e, at)
		}
		if e < api.OK || e > api.ErrType || at < 0 || at > len(text) || e == api.OK && at != 0 || e != api.OK && s != "" {
			t.Fatalf("Print(%q) = %q, %d, %d", text, s, e, at)
		}
		event, state := m.event()
		if v, e2 := Mean(text, event, state); e2 != e || e != api.OK && v != (api.Verdict{}) || v.Steps != 0 {
			t.Fatalf("Mean(%q) = %+v, %d, Check has %d", text, v, e2, e)
		}
		if b, e2, at2 := Compile(text, int(m.Uint64())); e2 != e || at2 != at || (b == "") != (e != api.OK) {
			t.Fatalf("Compile(%q) = %q, %d, %d, Check has %d, %d", text, b, e2, at2, e, at)
		}
	}
	for range 6000 {
		b := []byte(m.policy(1+m.Intn(3), 1+m.Intn(4)).text)
		for range m.Intn(4) {
			switch i := m.Intn(len(b)); m.Intn(3) {
			case 0:
				b[i] = byte(m.Intn(256))
			case 1:
				b = b[:i+1]
			default:
				b[i] = " \n();+-=<9a"[m.Intn(11)]
			}
		}
		hold(string(b))
	}
	for _, part := range []string{"(", ")", "not ", "if ", "then ", "else ", "let ", "allow if ", "1", "1+", "a ", "=", "<", "<=", ";", "\x00", "\xff", " "} {
		for n := range 20 {
			hold("allow if " + strings.Repeat(part, n*n*3))
			hold(strings.Repeat(part, n*n*3))
		}
	}
}
