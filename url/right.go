package url

import (
	"strings"

	"pounce/api"
	"pounce/fold"
)

// Only these bytes stand in paths and queries, those of opaque addresses blanks too.
const (
	firstByte = '!'
	lastByte  = '~'
	space     = ' '
)

// isRanked answers whether the parts of an address that is not opaque are right.
func isRanked(u api.URL) bool {
	own := Default(u.Scheme)
	return own != 0 && isHost(u.Host) && 0 <= u.Port && u.Port <= maxPort && u.Port != own && isPath(u.Path) && isQuery(u.Query)
}

// isOpaque answers whether the parts of an opaque address are right.
func isOpaque(u api.URL) bool {
	return isScheme(u.Scheme) && Default(u.Scheme) == 0 && u.Host == "" && u.Port == 0 && u.Query == "" &&
		within(u.Path, space, "#") && fold.Trim(u.Path) == u.Path
}

func isScheme(s string) bool {
	if s == "" || len(s) > maxScheme || !isSmall(s[0]) {
		return false
	}
	for at := range len(s) {
		if c := s[at]; !isSmall(c) && !isDigit(c) && c != '+' && c != '-' && c != '.' {
			return false
		}
	}
	return true
}

// isHost looks for a point next to another one as for an empty name beside a point, which is one at either end, too.
func isHost(s string) bool {
	if len(s) > api.MaxHost {
		return false
	}
	for _, name := range strings.Split(s, ".") {
		if !isName(name) {
			return false
		}
	}
	return true
}

// isName answers whether s may stand between a host's points.
func isName(s string) bool {
	for at := range len(s) {
		if c := s[at]; !isSmall(c) && !isDigit(c) && c != '-' {
			return false
		}
	}
	return s != ""
}

// isPath holds a path against itself, cleaned: that has no piece to be left out.
func isPath(s string) bool {
	return s != "" && within(s, firstByte, "?#") && Clean(s) == s
}

func isQuery(s string) bool {
	return s == "" || s[0] == '?' && within(s, firstByte, "#")
}

func isSmall(c byte) bool { return 'a' <= c && c <= 'z' }

func isDigit(c byte) bool { return '0' <= c && c <= '9' }

// within answers whether s has nothing but bytes from first to lastByte, and none of those in except.
func within(s string, first byte, except string) bool {
	for at := range len(s) {
		if c := s[at]; c < first || c > lastByte || strings.IndexByte(except, c) >= 0 {
			return false
		}
	}
	return true
}
