package policy

import (
	"slices"

	"gavel/words"
)

// reader goes through the words of a text once, and never takes a word that
// can't stand where it stands: so the word that it fails at is the first at
// which the text is no policy any more.
type reader struct {
	list   []words.Word // the last one is an End
	next   int
	failed bool
	place  int // of the first failure
}

// parse gives the items that the words make; or false, and the place of the
// first word that can't stand there.
func parse(list []words.Word) (Policy, int, bool) {
	r := &reader{list: list}
	var p Policy
	for r.kind() != words.End {
		p = append(p, r.item())
	}
	if r.failed {
		return nil, r.place, false
	}
	p.count()
	return p, 0, true
}

// count tells each item which of its kind it is.
func (p Policy) count() {
	lets, rules := 0, 0
	for i := range p {
		if p[i].Kind == words.Let {
			p[i].Which = lets
			lets++
		} else {
			rules++
			p[i].Which = rules
		}
	}
}

func (r *reader) kind() words.Kind { return r.list[r.next].Kind }

// take must not be called at the End.
func (r *reader) take() words.Word {
	word := r.list[r.next]
	r.next++
	return word
}

// fail goes to the End, where no form of condition goes on and every want
// fails again, so that the reading comes to its end by itself.
func (r *reader) fail() {
	if !r.failed {
		r.failed = true
		r.place = r.list[r.next].At
	}
	r.next = len(r.list) - 1
}

// want takes a word of one of these kinds.
func (r *reader) want(kinds ...words.Kind) words.Word {
	if !slices.Contains(kinds, r.kind()) {
		r.fail()
		return words.Word{}
	}
	return r.take()
}

func (r *reader) item() Item {
	it := Item{Word: r.want(words.Let, words.Allow, words.Deny)}
	if it.Kind == words.Let {
		it.Given = r.want(words.Own)
		r.want(words.Equal)
	} else {
		r.want(words.If)
	}
	it.Cond = r.condition()
	r.want(words.Semicolon)
	return it
}

func (r *reader) condition() *Cond { return r.fork(words.If, r.whether, r.choice) }

func (r *reader) choice() *Cond { return r.chain(r.both, words.Or) }

func (r *reader) both() *Cond { return r.chain(r.part, words.And) }

func (r *reader) part() *Cond { return r.fork(words.Not, r.negation, r.compared) }

func (r *reader) compared() *Cond {
	return r.pair(r.sum, words.Equal, words.Less, words.AtMost)
}

func (r *reader) sum() *Cond { return r.chain(r.one, words.Plus, words.Minus) }

func (r *reader) one() *Cond { return r.fork(words.LeftBracket, r.bracketed, r.single) }

// fork reads one form if a word of this kind stands ahead, else the other.
func (r *reader) fork(ahead words.Kind, with, without func() *Cond) *Cond {
	if r.kind() == ahead {
		return with()
	}
	return without()
}

// chain reads a form once or more, with joining words between, from the left.
func (r *reader) chain(form func() *Cond, joins ...words.Kind) *Cond {
	c := form()
	for slices.Contains(joins, r.kind()) {
		c = r.join(c, form)
	}
	return c
}

// pair reads a form once, or twice with a joining word between.
func (r *reader) pair(form func() *Cond, joins ...words.Kind) *Cond {
	c := form()
	if slices.Contains(joins, r.kind()) {
		c = r.join(c, form)
	}
	return c
}

func (r *reader) join(left *Cond, form func() *Cond) *Cond {
	word := r.take()
	return &Cond{Word: word, Under: []*Cond{left, form()}}
}

func (r *reader) whether() *Cond {
	word := r.want(words.If)
	test := r.condition()
	r.want(words.Then)
	then := r.condition()
	r.want(words.Else)
	return &Cond{Word: word, Under: []*Cond{test, then, r.condition()}}
}

func (r *reader) negation() *Cond {
	word := r.want(words.Not)
	return &Cond{Word: word, Under: []*Cond{r.part()}}
}

func (r *reader) bracketed() *Cond {
	r.want(words.LeftBracket)
	c := r.condition()
	r.want(words.RightBracket)
	return c
}

func (r *reader) single() *Cond {
	if !r.kind().StandsAlone() {
		r.fail()
		return &Cond{}
	}
	return &Cond{Word: r.take()}
}
