package policy

import (
	"slices"

	"gavel/words"
)

// resolve tells each own name in a condition which let gave it; or where the
// first name is that none gave, or that is given again.
func (p Policy) resolve() (int, bool) {
	var given []string
	for _, it := range p {
		if it.Kind == words.Let && slices.Contains(given, it.Given.Name) {
			return it.Given.At, false
		}
		if at, ok := it.Cond.resolve(given); !ok {
			return at, false
		}
		if it.Kind == words.Let {
			given = append(given, it.Given.Name)
		}
	}
	return 0, true
}

func (c *Cond) resolve(given []string) (int, bool) {
	if c.Kind == words.Own {
		c.Let = slices.Index(given, c.Name)
		return c.At, c.Let >= 0
	}
	for _, under := range c.Under {
		if at, ok := under.resolve(given); !ok {
			return at, false
		}
	}
	return 0, true
}
