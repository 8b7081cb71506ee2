package token_test

import (
	"regexp"
	"strings"

	"pounce/api"
	"pounce/entity"
)

// odd is the code point 65533.
const odd = "\xef\xbf\xbd"

// The model: what begins no tag is one of a row of patterns; a tag is gone through byte by byte, from state to state, its attributes told as pairs of places; texts side by side are joined at last. It is what the package is held against.

// modelPatterns are asked one by one, behind tags; behind what is told is what ends it, and if that is empty, it is cut.
var modelPatterns = []struct {
	pattern *regexp.Regexp
	kind    api.TokenKind
	sign    bool // it is a Fail by itself
}{
	{regexp.MustCompile(`(?s)^<!--(.*?)(-->|$)`), 4, false},
	{regexp.MustCompile(`^<![dD][oO][cC][tT][yY][pP][eE]([^>]*)(>|$)`), 5, false},
	{regexp.MustCompile(`^<[!?/]([^>]*)(>|$)`), 4, true},
	{regexp.MustCompile(`^(<)()`), 1, true},
	{regexp.MustCompile(`^([^<]+)()`), 1, false},
}

var (
	modelTagBegin = regexp.MustCompile(`^</?[A-Za-z]`)
	modelRawEnds  = map[string]*regexp.Regexp{
		"script":   regexp.MustCompile("</[sS][cC][rR][iI][pP][tT][\t\n\f\r />]"),
		"style":    regexp.MustCompile("</[sS][tT][yY][lL][eE][\t\n\f\r />]"),
		"textarea": regexp.MustCompile("</[tT][eE][xX][tT][aA][rR][eE][aA][\t\n\f\r />]"),
		"title":    regexp.MustCompile("</[tT][iI][tT][lL][eE][\t\n\f\r />]"),
	}
)

// modelState is what a tag's next byte is looked at as.
type modelState int

const (
	inName   modelState = iota // the tag's
	between                    // attributes
	slashed                    // a slash was the last byte, and no attribute's
	inAttr                     // an attribute's name
	behind                     // blanks behind that
	ahead                      // of a value
	inQuoted                   // a value
	inBare
	ended
)

// modelPart is an attribute: where its name stands, and its value.
type modelPart struct{ name, nameEnd, value, valueEnd int }

// modelTag is a tag as places in a text.
type modelTag struct {
	text    string
	state   modelState
	quote   byte
	nameEnd int
	closed  bool
	parts   []modelPart
}

// step looks at the byte at a place.
func (m *modelTag) step(at int) {
	c := m.text[at]
	blank := strings.IndexByte("\t\n\f\r ", c) >= 0
	var last *modelPart
	if len(m.parts) > 0 {
		last = &m.parts[len(m.parts)-1]
	}
	switch m.state {
	case inName:
		if blank || c == '/' || c == '>' {
			m.nameEnd = at
			m.outside(c, blank, at)
		}
	case inAttr:
		if blank || c == '/' || c == '>' || c == '=' {
			last.nameEnd = at
			m.state = behind
			m.step(at)
		}
	case behind:
		switch {
		case blank:
		case c == '=':
			m.state = ahead
		default:
			m.outside(c, blank, at)
		}
	case ahead:
		if blank {
			return
		}
		last.value, last.valueEnd = at, at
		switch c {
		case '"', '\'':
			m.state, m.quote = inQuoted, c
			last.value++
		case '>':
			m.state = ended
		default:
			m.state = inBare
		}
	case inQuoted:
		if c == m.quote {
			last.valueEnd = at
			m.state = between
		}
	case inBare:
		if blank || c == '>' {
			last.valueEnd = at
			m.outside(c, blank, at)
		}
	default:
		m.outside(c, blank, at)
	}
}

// outside looks at a byte that is in no part of a tag.
func (m *modelTag) outside(c byte, blank bool, at int) {
	switch {
	case blank:
		m.state = between
	case c == '/':
		m.state = slashed
	case c == '>':
		m.closed = m.state == slashed
		m.state = ended
	default:
		m.state = inAttr
		m.parts = append(m.parts, modelPart{name: at})
	}
}

// modelRead is what the model has told.
type modelRead struct {
	text   string
	tokens []api.Token
	fails  []api.Fail
}

func (m *modelRead) fail(code api.Errno, at int) {
	m.fails = append(m.fails, api.Fail{Code: code, At: at})
}

func (m *modelRead) decode(from, to int) string {
	s, fails := entity.Decode(m.text[from:to])
	for _, f := range fails {
		m.fail(f.Code, f.At+from)
	}
	return s
}

// tag answers the place behind the tag at a place, or, behind a raw start tag, behind its text.
func (m *modelRead) tag(from int) int {
	t := modelTag{text: m.text}
	begin := len(modelTagBegin.FindString(m.text[from:])) - 1
	at := from + begin
	for ; at < len(m.text) && t.state != ended; at++ {
		t.step(at)
	}
	if t.state != ended {
		m.fail(140, from)
		return len(m.text)
	}
	told := api.Token{Kind: api.TokenKind(begin + 1), Name: modelSmall(m.text[from+begin : t.nameEnd])}
	if begin == 2 {
		for _, p := range t.parts {
			m.decode(p.value, p.valueEnd)
		}
		m.tokens = append(m.tokens, told)
		return at
	}
	told.Closed = t.closed
	taken := map[string]bool{}
	for _, p := range t.parts {
		name := modelSmall(m.text[p.name:p.nameEnd])
		take := !taken[name] && len(taken) < 30
		if taken[name] {
			m.fail(142, p.name)
		} else if !take {
			m.fail(2, p.name)
		}
		value := m.decode(p.value, p.valueEnd)
		if take {
			taken[name] = true
			told.Attrs = append(told.Attrs, api.Attr{Name: name, Value: value})
		}
	}
	m.tokens = append(m.tokens, told)
	if end := modelRawEnds[told.Name]; end != nil {
		return m.raw(told.Name, at, end.FindStringIndex(m.text[at:]))
	}
	return at
}

// raw answers the place behind the text of a raw element.
func (m *modelRead) raw(name string, from int, end []int) int {
	to := len(m.text)
	if end != nil {
		to = from + end[0]
	}
	s := m.text[from:to]
	if name[0] == 't' {
		s = m.decode(from, to)
	}
	m.tokens = append(m.tokens, api.Token{Kind: 1, Data: s})
	if end == nil {
		m.fail(140, from)
	}
	return to
}

// other answers the place behind what is no tag.
func (m *modelRead) other(from int) int {
	for _, p := range modelPatterns {
		place := p.pattern.FindStringSubmatchIndex(m.text[from:])
		if place == nil {
			continue
		}
		if p.sign {
			m.fail(141, from)
		}
		told := api.Token{Kind: p.kind, Data: m.text[from+place[2] : from+place[3]]}
		switch {
		case p.kind == 1:
			told.Data = m.decode(from+place[2], from+place[3])
		case place[4] == place[5]:
			m.fail(140, from)
		}
		if p.kind == 5 {
			told.Data = strings.Trim(told.Data, "\t\n\f\r ")
		}
		m.tokens = append(m.tokens, told)
		return from + place[1]
	}
	panic("the model has no pattern for this")
}

func modelTokens(s string) ([]api.Token, []api.Fail) {
	m := modelRead{text: s}
	for at := 0; at < len(s); {
		if modelTagBegin.MatchString(s[at:]) {
			at = m.tag(at)
		} else {
			at = m.other(at)
		}
	}
	joined := []api.Token{}
	for _, t := range m.tokens {
		switch last := len(joined) - 1; {
		case t.Kind == 1 && t.Data == "":
		case t.Kind == 1 && last >= 0 && joined[last].Kind == 1:
			joined[last].Data += t.Data
		default:
			joined = append(joined, t)
		}
	}
	return joined, m.fails
}

// modelPrint goes from the last token to the first, so that it has what is ahead of each one still to come.
func modelPrint(l []api.Token) string {
	if len(l) == 0 {
		return ""
	}
	ahead, t := l[:len(l)-1], l[len(l)-1]
	told := ""
	switch t.Kind {
	case 1:
		told = entity.Encode(t.Data)
		if at := len(ahead) - 1; at >= 0 && ahead[at].Kind == 2 && (ahead[at].Name == "script" || ahead[at].Name == "style") {
			told = t.Data
		}
	case 2:
		parts := []string{"<" + t.Name}
		for _, a := range t.Attrs {
			parts = append(parts, a.Name+"=\""+entity.Encode(a.Value)+"\"")
		}
		told = strings.Join(parts, " ") + map[bool]string{true: "/>", false: ">"}[t.Closed]
	case 3:
		told = "</" + t.Name + ">"
	case 4:
		told = "<!--" + t.Data + "-->"
	case 5:
		told = "<!doctype " + t.Data + ">"
	}
	return modelPrint(ahead) + told
}

// modelSmall makes great letters small, byte by byte.
func modelSmall(s string) string {
	b := []byte(s)
	for at, c := range b {
		if c >= 65 && c <= 90 {
			b[at] = c + 32
		}
	}
	return string(b)
}

// eachRow calls yield with each text that is made of that many of the pieces.
func eachRow(pieces []string, count int, yield func(string)) {
	if count == 0 {
		yield("")
		return
	}
	eachRow(pieces, count-1, func(begin string) {
		for _, piece := range pieces {
			yield(begin + piece)
		}
	})
}
