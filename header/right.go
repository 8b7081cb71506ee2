package header

import (
	"strings"

	"pounce/api"
)

const nameSigns = "abcdefghijklmnopqrstuvwxyz0123456789-"

// Words have these bytes, and those between, but none that parts policies or directives.
const (
	firstByte = '!'
	lastByte  = '~'
)

// isRight asks whether words are words too: the text of others would be parsed as something else.
func isRight(p api.Policy) bool {
	take := gather(&api.Policy{})
	for _, d := range p.Directives {
		if !take(d) || !areWords(d.Words) {
			return false
		}
	}
	return len(p.Directives) > 0
}

func areWords(words []string) bool {
	if len(words) > api.MaxWords {
		return false
	}
	for _, word := range words {
		if !isWord(word) {
			return false
		}
	}
	return true
}

// isName looks at the length ahead of the signs, as a text may be sent that is very long.
func isName(s string) bool {
	return s != "" && len(s) <= api.MaxName && strings.Trim(s, nameSigns) == ""
}

func isWord(s string) bool {
	for at := range len(s) {
		if c := s[at]; c < firstByte || c > lastByte || c == ',' || c == ';' {
			return false
		}
	}
	return s != ""
}
