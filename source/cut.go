package source

import (
	"strconv"
	"strings"

	"pounce/api"
	"pounce/base"
	"pounce/fold"
)

const (
	maxDigits = 5  // of a port
	portBits  = 16 // the greatest port has them all
)

// cutter is a source, as far as it was cut off a word, and the rest of that word.
type cutter struct {
	api.Source
	left string
}

// cut goes by a word's ends: only the kept ones, nonces and marks begin with a quote, and only schemes end with a colon.
func (c *cutter) cut() bool {
	switch {
	case strings.HasPrefix(c.left, quote):
		return c.cutKept() || c.cutQuoted()
	case strings.HasSuffix(c.left, colon):
		c.Kind, c.Scheme = api.SourceScheme, fold.Lower(strings.TrimSuffix(c.left, colon))
		return true
	default:
		c.Kind = api.SourceHost
		return c.cutPlace()
	}
}

func (c *cutter) cutKept() bool {
	for _, word := range keptWords {
		if fold.Same(c.left, word.text) {
			c.Kind = word.kind
			return true
		}
	}
	return false
}

// cutQuoted takes what is no mark as an empty one, which is not right.
func (c *cutter) cutQuoted() bool {
	left, closed := strings.CutSuffix(c.left, quote)
	c.left = left
	switch {
	case c.skip(nonceBegin):
		c.Kind, c.Text = api.SourceNonce, c.left
	case c.skip(markBegin):
		c.Kind = api.SourceHash
		c.Text, _ = base.Decode(c.left)
	}
	return closed
}

// skip takes begin off, its letters of any size, and answers whether it was next.
func (c *cutter) skip(begin string) bool {
	if len(c.left) < len(begin) || !fold.Same(c.left[:len(begin)], begin) {
		return false
	}
	c.left = c.left[len(begin):]
	return true
}

// cutPlace leaves the path, which begins at the first slash behind the scheme.
func (c *cutter) cutPlace() bool {
	if !c.cutScheme() {
		return false
	}
	end := strings.Index(c.left, slash)
	if end < 0 {
		end = len(c.left)
	}
	name, port, told := strings.Cut(c.left[:end], colon)
	c.Path = c.left[end:]
	return c.takeHost(fold.Lower(name)) && (!told || c.takePort(port))
}

// cutScheme asks for an empty scheme here, as a source may have none.
func (c *cutter) cutScheme() bool {
	scheme, left, told := strings.Cut(c.left, placeSign)
	if !told {
		return true
	}
	c.Scheme, c.left = fold.Lower(scheme), left
	return scheme != ""
}

// takeHost asks for an empty host here, as a wild source may have none.
func (c *cutter) takeHost(name string) bool {
	if name == wildSign {
		c.Wild = true
		return true
	}
	c.Host, c.Wild = strings.CutPrefix(name, wildSign+point)
	return c.Host != ""
}

// takePort takes no port that is 0, as none is told so.
func (c *cutter) takePort(text string) bool {
	if text == wildSign {
		c.Port = anyPort
		return true
	}
	if len(text) > maxDigits {
		return false
	}
	port, err := strconv.ParseUint(text, 10, portBits)
	c.Port = int(port)
	return err == nil && port > 0
}
