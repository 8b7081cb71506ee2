package feed_test

import (
	"slices"

	"pounce/api"
	"pounce/token"
)

// The model: what was taken is kept as it came, part by part, and looked at only at the end, as one; a text is made of its code points by the language's own conversion.

type modelFeeder struct{ parts [][]byte }

func (m *modelFeeder) feed(b []byte) api.Errno {
	if m.count()+len(b) > 20000 {
		return api.ErrLimit
	}
	m.parts = append(m.parts, slices.Clone(b))
	return api.OK
}

func (m *modelFeeder) count() int { return len(slices.Concat(m.parts...)) }

func (m *modelFeeder) end() ([]api.Token, []api.Fail, api.Errno) {
	all := slices.Concat(m.parts...)
	m.parts = nil
	return modelWhole(all)
}

func modelWhole(b []byte) ([]api.Token, []api.Fail, api.Errno) {
	if len(b) > 20000 {
		return nil, nil, api.ErrLimit
	}
	return token.Tokens(modelText(b))
}

// modelText answers b as text: the language makes 65533 of each byte that is none of a code point's.
func modelText(b []byte) string { return string([]rune(string(b))) }

// eachRow calls yield with each row of that many of the pieces.
func eachRow(pieces []string, count int, yield func(string)) {
	if count == 0 {
		yield("")
		return
	}
	eachRow(pieces, count-1, func(row string) {
		for _, piece := range pieces {
			yield(row + piece)
		}
	})
}
