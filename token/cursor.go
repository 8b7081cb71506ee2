package token

import (
	"strings"

	"pounce/fold"
)

// text is a document's. Its methods are asked of places that may lie at its end, or behind it.
type text string

// isLetter tells whether a letter stands at a place.
func (t text) isLetter(at int) bool {
	return at < len(t) && ('A' <= t[at] && t[at] <= 'Z' || 'a' <= t[at] && t[at] <= 'z')
}

// isOneOf tells whether a blank, or one of the signs, stands at a place.
func (t text) isOneOf(at int, signs string) bool {
	return at < len(t) && (fold.Blank(t[at]) || strings.IndexByte(signs, t[at]) >= 0)
}

// isAt tells whether sign, letters of any size, stands at a place.
func (t text) isAt(at int, sign string) bool {
	end := at + len(sign)
	return end <= len(t) && fold.Same(string(t[at:end]), sign)
}

// endTag answers the place of the first one of that name from a place on, and whether there is one.
func (t text) endTag(at int, name string) (int, bool) {
	begin := endTagBegin + name
	for ; at < len(t); at++ {
		if t.isAt(at, begin) && t.isOneOf(at+len(begin), slash+tagEnd) {
			return at, true
		}
	}
	return 0, false
}

// cursor is at a place in the text that it embeds.
type cursor struct {
	text
	at int
}

func (c *cursor) atEnd() bool { return c.at == len(c.text) }

// left is what stands from the cursor's place on.
func (c *cursor) left() string { return string(c.text[c.at:]) }

// begins tells whether sign, letters of any size, is next.
func (c *cursor) begins(sign string) bool { return c.isAt(c.at, sign) }

// beginsTag tells whether a tag that begins so is next.
func (c *cursor) beginsTag(begin string) bool {
	return c.begins(begin) && c.isLetter(c.at+len(begin))
}

// skip leaves sign out, and answers whether it was next.
func (c *cursor) skip(sign string) bool {
	next := c.begins(sign)
	if next {
		c.at += len(sign)
	}
	return next
}

// skipAll leaves out blanks and signs, and answers what was left out.
func (c *cursor) skipAll(signs string) string {
	from := c.at
	for c.isOneOf(c.at, signs) {
		c.at++
	}
	return string(c.text[from:c.at])
}

// take takes that many bytes.
func (c *cursor) take(size int) string {
	c.at += size
	return string(c.text[c.at-size : c.at])
}

// takeUntil takes all up to the first blank, or one of the signs; all that is left, if there is none.
func (c *cursor) takeUntil(signs string) string {
	end := c.at
	for end < len(c.text) && !c.isOneOf(end, signs) {
		end++
	}
	return c.take(end - c.at)
}

// takeThrough takes all up to the next sign, which is left out, and answers whether there is one; else it takes all that is left.
func (c *cursor) takeThrough(sign string) (string, bool) {
	size := strings.Index(c.left(), sign)
	if size < 0 {
		return c.take(len(c.left())), false
	}
	data := c.take(size)
	return data, c.skip(sign)
}
