package gavel

import (
	"math/big"
	"strings"

	"gavel/api"
)

// plainJudge judges by the plain form alone, whose brackets leave nothing to
// weigh, with numbers that have no bounds: a second opinion on Mean.
type plainJudge struct {
	words []string
	known map[string]*big.Int // what fields and names stand for
}

func meantByPlain(plain string, e api.Event, s api.State) api.Verdict {
	j := &plainJudge{known: knownOf(e, s)}
	rule := 0
	for _, line := range strings.Split(plain, "\n") {
		j.words = strings.Fields(strings.NewReplacer("(", " ( ", ")", " ) ", ";", " ").Replace(line))
		if len(j.words) == 0 {
			continue
		}
		head, name := j.next(), j.next()
		if head == "let" {
			j.next()
			j.known[name] = j.cond()
			continue
		}
		rule++
		if j.cond().Sign() != 0 {
			return api.Verdict{Allow: head == "allow", Rule: rule}
		}
	}
	return api.Verdict{}
}

func knownOf(e api.Event, s api.State) map[string]*big.Int {
	level, rank, sender, target := s.Default, s.Default, 0, 0
	for i := len(s.Levels) - 1; i >= 0; i-- {
		if s.Levels[i].User == e.Sender {
			level = s.Levels[i].N
		}
		if s.Levels[i].User == e.Target {
			rank = s.Levels[i].N
		}
	}
	for i := len(s.Members) - 1; i >= 0; i-- {
		if s.Members[i].User == e.Sender {
			sender = s.Members[i].Is
		}
		if s.Members[i].User == e.Target {
			target = s.Members[i].Is
		}
	}
	members := map[int]int64{1: 1, 2: 2, 3: 3, 4: 4}
	return map[string]*big.Int{
		"level": big.NewInt(level), "rank": big.NewInt(rank), "need": big.NewInt(e.Need), "when": big.NewInt(e.When),
		"sender": big.NewInt(members[sender]), "target": big.NewInt(members[target]), "wants": big.NewInt(members[e.Wants]),
		"self": truth(strings.Compare(e.Sender, e.Target) == 0), "open": truth(s.Open), "true": truth(true), "false": truth(false),
		"none": big.NewInt(0), "invite": big.NewInt(1), "join": big.NewInt(2), "leave": big.NewInt(3), "ban": big.NewInt(4),
	}
}

func truth(is bool) *big.Int {
	if is {
		return big.NewInt(1)
	}
	return big.NewInt(0)
}

func (j *plainJudge) next() string {
	word := j.words[0]
	j.words = j.words[1:]
	return word
}

func (j *plainJudge) cond() *big.Int {
	word := j.next()
	if word != "(" {
		if told, ok := j.known[word]; ok {
			return told
		}
		n, _ := new(big.Int).SetString(word, 10)
		return n
	}
	defer j.next() // the bracket behind
	switch j.words[0] {
	case "not":
		j.next()
		return truth(j.cond().Sign() == 0)
	case "if":
		j.next()
		test := j.cond()
		j.next()
		then := j.cond()
		j.next()
		other := j.cond()
		if test.Sign() != 0 {
			return then
		}
		return other
	}
	left := j.cond()
	op := j.next()
	return overTwo(op, left, j.cond())
}

func overTwo(op string, left, right *big.Int) *big.Int {
	switch op {
	case "+":
		return bounded(new(big.Int).Add(left, right))
	case "-":
		return bounded(new(big.Int).Sub(left, right))
	case "=":
		return truth(left.Cmp(right) == 0)
	case "<":
		return truth(left.Cmp(right) < 0)
	case "<=":
		return truth(left.Cmp(right) <= 0)
	case "and":
		return truth(left.Sign()*right.Sign() != 0)
	}
	return truth(left.Sign()+right.Sign() != 0)
}

func bounded(n *big.Int) *big.Int {
	half := new(big.Int).Lsh(big.NewInt(1), 63)
	if n.Cmp(half) >= 0 {
		return half.Sub(half, big.NewInt(1))
	}
	if least := half.Neg(half); n.Cmp(least) < 0 {
		return least
	}
	return n
}
