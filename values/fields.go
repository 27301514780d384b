package values

import "gavel/api"

// Fields of an event, each at its number.
type Fields [api.FieldOpen + 1]Value

// FieldsOf finds the fields in an event and a state.
func FieldsOf(e api.Event, s api.State) Fields {
	return Fields{
		api.FieldLevel:  level(s, e.Sender),
		api.FieldRank:   level(s, e.Target),
		api.FieldNeed:   Value(e.Need),
		api.FieldWhen:   Value(e.When),
		api.FieldSender: standing(s, e.Sender),
		api.FieldTarget: standing(s, e.Target),
		api.FieldWants:  member(e.Wants),
		api.FieldSelf:   Truth(e.Sender == e.Target),
		api.FieldOpen:   Truth(s.Open),
	}
}

func level(s api.State, user string) Value {
	for _, l := range s.Levels {
		if l.User == user {
			return Value(l.N)
		}
	}
	return Value(s.Default)
}

// standing is what a user is to the room. The first entry counts even if it
// is no member: the ones behind it are not asked.
func standing(s api.State, user string) Value {
	for _, m := range s.Members {
		if m.User == user {
			return member(m.Is)
		}
	}
	return api.None
}

func member(n int) Value {
	if n < api.None || n > api.Ban {
		return api.None
	}
	return Value(n)
}
