package policy

import (
	"strconv"
	"strings"

	"gavel/words"
)

// Plain writes the policy in its plain form.
func (p Policy) Plain() string {
	var b strings.Builder
	for _, it := range p {
		b.WriteString(it.head())
		b.WriteString(it.Cond.plain())
		b.WriteString(";\n")
	}
	return b.String()
}

func (it Item) head() string {
	if it.Kind == words.Let {
		return "let " + it.Given.Name + " = "
	}
	return it.Kind.Spelling() + " if "
}

func (c *Cond) plain() string {
	switch c.Kind {
	case words.Number:
		return strconv.FormatInt(c.Number, 10)
	case words.Own:
		return c.Name
	case words.Not:
		return "(not " + c.Under[0].plain() + ")"
	case words.If:
		return "(if " + c.Under[0].plain() + " then " + c.Under[1].plain() + " else " + c.Under[2].plain() + ")"
	}
	if len(c.Under) == 2 {
		return "(" + c.Under[0].plain() + " " + c.Kind.Spelling() + " " + c.Under[1].plain() + ")"
	}
	return c.Kind.Spelling()
}
