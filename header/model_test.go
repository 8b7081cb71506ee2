package header_test

import (
	"bytes"
	"regexp"

	"pounce/api"
)

// The model: a text gone through sign by sign, where each sign may end a word, a directive, a policy; and what is right is what a text is read as. It is what the package is held against.

var (
	modelName = regexp.MustCompile(`^[a-z0-9-]{1,40}$`)
	modelWord = regexp.MustCompile(`^[!-+\--:<-~]+$`)
)

// reading is what was read of a text so far.
type reading struct {
	word       []byte
	words      []string
	directives []api.Directive
	policies   []api.Policy
}

func (r *reading) endWord() {
	if len(r.word) > 0 {
		r.words = append(r.words, string(r.word))
	}
	r.word = nil
}

func (r *reading) endDirective() {
	r.endWord()
	d := api.Directive{}
	for at, word := range r.words {
		switch {
		case at == 0:
			d.Name = modelSmall(word)
		case at <= 200 && modelWord.MatchString(word):
			d.Words = append(d.Words, word)
		}
	}
	right := modelName.MatchString(d.Name)
	for _, other := range r.directives {
		right = right && other.Name != d.Name
	}
	if right {
		r.directives = append(r.directives, d)
	}
	r.words = nil
}

func (r *reading) endPolicy(report bool) {
	r.endDirective()
	if len(r.directives) > 0 && len(r.policies) < 10 {
		r.policies = append(r.policies, api.Policy{Directives: r.directives, Report: report})
	}
	r.directives = nil
}

func modelParse(s string, report bool) []api.Policy {
	r := reading{}
	for at := range len(s) {
		switch c := s[at]; c {
		case 9, 10, 12, 13, 32:
			r.endWord()
		case 59:
			r.endDirective()
		case 44:
			r.endPolicy(report)
		default:
			r.word = append(r.word, c)
		}
	}
	r.endPolicy(report)
	return r.policies
}

// modelPrint writes a policy, right or not: it is right, if the text is read as it alone.
func modelPrint(p api.Policy) (string, bool) {
	text := bytes.Buffer{}
	for at, d := range p.Directives {
		if at > 0 {
			text.WriteString("; ")
		}
		text.WriteString(d.Name)
		for _, word := range d.Words {
			text.WriteString(" " + word)
		}
	}
	if !equal(modelParse(text.String(), p.Report), []api.Policy{p}) {
		return "", false
	}
	return text.String(), true
}

func modelSmall(s string) string {
	text := []byte(s)
	for at := range text {
		if text[at] >= 65 && text[at] <= 90 {
			text[at] += 32
		}
	}
	return string(text)
}
