package gavel

import (
	"strings"
	"testing"

	"gavel/api"
)

// What may come next, for a judge of the grammar that goes from word to word
// with a stack of what is open, and so shares nothing with the reader.
const (
	wantItem  = iota
	wantGiven // behind let
	wantSign  // behind let and a name
	wantIf    // behind allow, deny
	wantCond
	wantPart
	wantOne
	haveOne
)

type open struct {
	by       string // "item", "(", "if", "then" or "else"
	compared bool
}

type judge struct {
	state int
	stack []open
}

func (j *judge) top() *open { return &j.stack[len(j.stack)-1] }

func (j *judge) start(by string) bool {
	j.stack = append(j.stack, open{by: by})
	j.state = wantCond
	return true
}

// close ends conditions up to one that was opened by this.
func (j *judge) close(by string) bool {
	for j.top().by == "else" {
		j.stack = j.stack[:len(j.stack)-1]
	}
	if j.top().by != by {
		return false
	}
	j.stack = j.stack[:len(j.stack)-1]
	return true
}

func (j *judge) to(state int) bool {
	j.state = state
	return true
}

// next tells whether this word can stand next.
func (j *judge) next(word string) bool {
	switch j.state {
	case wantItem:
		if word == "let" {
			return j.to(wantGiven)
		}
		return (word == "allow" || word == "deny") && j.to(wantIf)
	case wantGiven:
		return word == "x" && j.to(wantSign)
	case wantSign:
		return word == "=" && j.start("item")
	case wantIf:
		return word == "if" && j.start("item")
	case haveOne:
		return j.behindOne(word)
	}
	switch word {
	case "if":
		return j.state == wantCond && j.start("if")
	case "not":
		return j.state != wantOne && j.to(wantPart)
	case "(":
		return j.start("(")
	case "x", "1", "self", "ban":
		return j.to(haveOne)
	}
	return false
}

func (j *judge) behindOne(word string) bool {
	switch word {
	case "or", "and":
		j.top().compared = false
		return j.to(wantPart)
	case "=", "<", "<=":
		if j.top().compared {
			return false
		}
		j.top().compared = true
		return j.to(wantOne)
	case "+", "-":
		return j.to(wantOne)
	case ")":
		return j.close("(") && j.to(haveOne)
	case ";":
		return j.close("item") && j.to(wantItem)
	case "then":
		return j.close("if") && j.start("then")
	case "else":
		return j.close("then") && j.start("else")
	}
	return false
}

// formOf gives the place at which the words, with a blank behind each, are no
// policy any more; or -1.
func formOf(words []string) int {
	j := &judge{}
	at := 0
	for _, word := range words {
		if !j.next(word) {
			return at
		}
		at += len(word) + 1
	}
	if j.state != wantItem {
		return at
	}
	return -1
}

func holdForm(t *testing.T, words []string) {
	t.Helper()
	text := strings.Join(words, " ")
	if text != "" {
		text += " "
	}
	want := formOf(words)
	e, at := Check(text)
	if (e == api.ErrForm) != (want >= 0) || e == api.ErrForm && at != want {
		t.Errorf("Check(%q) = %d, %d, by the grammar the place is %d", text, e, at, want)
	}
}

// each goes through all lists of so many words.
func each(vocabulary, words []string, more int, do func([]string)) {
	do(words)
	if more == 0 {
		return
	}
	for _, word := range vocabulary {
		each(vocabulary, append(words[:len(words):len(words)], word), more-1, do)
	}
}

func TestP3FormOfAllShortTexts(t *testing.T) {
	all := strings.Fields("x 1 self ban ( ) ; + - = < <= let allow deny if then else or and not")
	each(all, nil, 3, func(words []string) { holdForm(t, words) })
	few := strings.Fields("x ( ) ; + = < if then else or not")
	for _, ahead := range []string{"allow if", "let x =", "allow if x", "deny if x = x", "allow if if x then x else", "allow if ( if x"} {
		each(few, strings.Fields(ahead), 4, func(words []string) { holdForm(t, words) })
	}
}
