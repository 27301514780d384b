package words

// Kind tells what a word is.
type Kind int

// The order counts: signs, keywords, and the words that can stand alone in a
// condition (from True on) are each in one run; members and fields are in the
// order of their numbers.
const (
	End Kind = iota // stands behind the last word
	Number
	Own

	LeftBracket
	RightBracket
	Semicolon
	Plus
	Minus
	Equal
	AtMost // ahead of Less, whose spelling it begins with
	Less

	Let
	Allow
	Deny
	If
	Then
	Else
	Or
	And
	Not

	True
	False
	None
	Invite
	Join
	Leave
	Ban
	Level
	Rank
	Need
	When
	Sender
	Target
	Wants
	Self
	Open
)

const (
	firstSign    = LeftBracket
	lastSign     = Less
	firstKeyword = Let
	lastKeyword  = Open
)

var spellings = [...]string{
	"", "", "",
	"(", ")", ";", "+", "-", "=", "<=", "<",
	"let", "allow", "deny", "if", "then", "else", "or", "and", "not",
	"true", "false", "none", "invite", "join", "leave", "ban",
	"level", "rank", "need", "when", "sender", "target", "wants", "self", "open",
}

// Spelling is how a sign or a keyword is written; the other kinds have no one spelling.
func (k Kind) Spelling() string {
	if k < 0 || int(k) >= len(spellings) {
		return ""
	}
	return spellings[k]
}

// StandsAlone tells whether a word of this kind is a condition by itself.
func (k Kind) StandsAlone() bool {
	return k == Number || k == Own || True <= k && k <= Open
}

// Member is the number of the member that a word of this kind names, if it does.
func (k Kind) Member() (int, bool) { return k.within(None, Ban) }

// Field is the number of the field that a word of this kind names, if it does.
func (k Kind) Field() (int, bool) { return k.within(Level, Open) }

// within is the kind's place in a run of kinds, if it is in it.
func (k Kind) within(first, last Kind) (int, bool) {
	if k < first || k > last {
		return 0, false
	}
	return int(k - first), true
}
