package allow_test

import (
	"math/big"
	"strconv"
	"strings"

	"pounce/api"
	"pounce/match"
)

// The model: a list and a request are told as facts, and what a list lets be stands in a table of rules on these facts. It is what the package is held against.

// modelRules: each rule is facts that must be so, and, behind a `!`, facts that must not; one rule that holds is enough. A number is that of a kind that the list has.
var modelRules = map[string][]string{
	"url":      {"place"},
	"nonce":    {"nonce"},
	"hash":     {"mark"},
	"loose":    {"3 !9 !10 !6"},
	"inline 1": {"3 !9 !10 !6", "nonce", "mark"},
	"inline 3": {"3 !9 !10 !6", "7 mark"},
	"inline 4": {"3 !9 !10 !6", "7 mark"},
	"fetch":    {"nonce", "6 !parser", "!6 place"},
	"eval 5":   {"4"},
	"eval 6":   {"4", "5"},
}

// modelMark reckons with whole numbers, and divides once at the end of each.
func modelMark(text string) string {
	prime, x, y := big.NewInt(1000000007), big.NewInt(7), big.NewInt(11)
	for _, c := range []byte(text) {
		next := big.NewInt(int64(c) + 1)
		x.Mul(x, big.NewInt(257)).Add(x, next)
		y.Mul(y, big.NewInt(65539)).Add(y, next)
	}
	x.Mod(x, prime)
	y.Mod(y, prime)
	both := new(big.Int).Mul(x, y)
	out := make([]byte, 16)
	for at, n := range []*big.Int{x, y, both.Mod(both, prime), big.NewInt(int64(len(text)))} {
		n.FillBytes(out[4*at : 4*at+4])
	}
	return string(out)
}

// modelFacts tells what is so of a list and a request. The mark of the request's text is handed in, as it takes long to reckon.
func modelFacts(l []api.Source, r api.Request, mark string) map[string]bool {
	facts := map[string]bool{"parser": r.Parser}
	for _, s := range l {
		facts[strconv.Itoa(int(s.Kind))] = true
		switch {
		case s.Kind == 9 && s.Text == r.Nonce && len(r.Nonce) > 0:
			facts["nonce"] = true
		case s.Kind == 10 && s.Text == mark:
			facts["mark"] = true
		case match.Url(s, r.URL, r.Self, r.Moved):
			facts["place"] = true
		}
	}
	return facts
}

// modelHolds answers whether a rule of that name holds; there is none of a name that the table does not have.
func modelHolds(facts map[string]bool, name string) bool {
	for _, rule := range modelRules[name] {
		holds := true
		for _, fact := range strings.Fields(rule) {
			name, denied := strings.CutPrefix(fact, "!")
			holds = holds && facts[name] != denied
		}
		if holds {
			return true
		}
	}
	return false
}

func modelOfKind(facts map[string]bool, name string, k api.RequestKind) bool {
	return modelHolds(facts, name+" "+strconv.Itoa(int(k)))
}
