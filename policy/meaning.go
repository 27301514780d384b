package policy

import (
	"slices"

	"gavel/api"
	"gavel/values"
	"gavel/words"
)

// teller finds what conditions tell of one event.
type teller struct {
	fields values.Fields
	lets   []values.Value // what the lets so far told, so that each is asked once
}

// Mean tells what the policy says of an event that has these fields.
func (p Policy) Mean(fields values.Fields) api.Verdict {
	t := &teller{fields: fields}
	for _, it := range p {
		told := t.tell(it.Cond)
		if it.Kind == words.Let {
			t.lets = append(t.lets, told)
			continue
		}
		if told == values.True {
			return api.Verdict{Allow: it.Kind == words.Allow, Rule: it.Which}
		}
	}
	return api.Verdict{}
}

// Fixed is what the condition tells of every event alike; or false, if it has
// a field or a name, which may tell something else of each.
func (c *Cond) Fixed() (values.Value, bool) {
	if c.hangsOnEvent() {
		return 0, false
	}
	return (&teller{}).tell(c), true
}

func (c *Cond) hangsOnEvent() bool {
	_, isField := c.Kind.Field()
	return isField || c.Kind == words.Own || slices.ContainsFunc(c.Under, (*Cond).hangsOnEvent)
}

func (t *teller) tell(c *Cond) values.Value {
	switch c.Kind {
	case words.If:
		if t.tell(c.Under[0]) == values.True {
			return t.tell(c.Under[1])
		}
		return t.tell(c.Under[2])
	case words.Not:
		return values.Not(t.tell(c.Under[0]))
	}
	if len(c.Under) == 2 {
		return tellOver(c.Kind, t.tell(c.Under[0]), t.tell(c.Under[1]))
	}
	return t.tellWord(c)
}

// tellOver is what a part tells that stands over two others.
func tellOver(kind words.Kind, left, right values.Value) values.Value {
	switch kind {
	case words.Plus:
		return values.Add(left, right)
	case words.Minus:
		return values.Sub(left, right)
	case words.Equal:
		return values.Equal(left, right)
	case words.Less:
		return values.Less(left, right)
	case words.AtMost:
		return values.AtMost(left, right)
	case words.And:
		return values.And(left, right)
	}
	return values.Or(left, right)
}

func (t *teller) tellWord(c *Cond) values.Value {
	switch c.Kind {
	case words.Number:
		return values.Value(c.Number)
	case words.Own:
		return t.lets[c.Let]
	}
	if field, ok := c.Kind.Field(); ok {
		return t.fields[field]
	}
	if member, ok := c.Kind.Member(); ok {
		return values.Value(member)
	}
	return values.Truth(c.Kind == words.True)
}
