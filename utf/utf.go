// Package utf is layer 1, bytes as text of code points: see shared/doc/01-utf.md.
package utf

import (
	"strings"
	"unicode/utf8"

	"pounce/api"
)

// The code points, and those numbers among them that are none.
const (
	lastPoint = 1114111
	firstGap  = 55296
	lastGap   = 57343
)

// unknown stands in the place of each byte that begins no code point's bytes.
const unknown = 65533

// maxKept is enough: a fourth byte always settles what a code point is.
const maxKept = 3

// Decode is P1.1.
func Decode(b []byte) string {
	told, rest := tell(string(b))
	return told + strings.Repeat(string(rune(unknown)), len(rest))
}

// Points is P1.2.
func Points(s string) []int {
	points := make([]int, 0, utf8.RuneCountInString(s))
	for _, point := range s {
		points = append(points, int(point))
	}
	return points
}

// Text is P1.2.
func Text(p []int) (string, api.Errno) {
	text := make([]byte, 0, len(p))
	for _, n := range p {
		if !isPoint(n) {
			return "", api.ErrArg
		}
		text = utf8.AppendRune(text, rune(n))
	}
	return string(text), api.OK
}

// isPoint looks at n as an int: as a rune, a number too large could turn into a code point.
func isPoint(n int) bool {
	return 0 <= n && n <= lastPoint && (n < firstGap || lastGap < n)
}

// tell answers what text is told as, and, of its end, what bytes behind it could still make a code point of.
func tell(text string) (string, string) {
	told := make([]byte, 0, len(text))
points:
	for at, point := range text {
		if point != unknown || utf8.FullRuneInString(text[at:]) {
			told = utf8.AppendRune(told, point)
			continue points
		}
		return string(told), text[at:]
	}
	return string(told), ""
}

// Reader takes bytes in parts.
type Reader struct {
	kept  [maxKept]byte
	count int
}

// New is P1.3.
func New() *Reader { return &Reader{} }

// Feed is P1.3.
func (r *Reader) Feed(b []byte) (string, api.Errno) {
	if r == nil {
		return "", api.ErrNil
	}
	told, rest := tell(string(r.untold()) + string(b))
	r.count = copy(r.kept[:], rest)
	return told, api.OK
}

// End is P1.3.
func (r *Reader) End() (string, api.Errno) {
	if r == nil {
		return "", api.ErrNil
	}
	told := Decode(r.untold())
	*r = Reader{}
	return told, api.OK
}

// untold is a piece of the Reader's own array: it must not be handed out.
func (r *Reader) untold() []byte { return r.kept[:r.count] }
