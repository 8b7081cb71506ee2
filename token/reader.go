package token

import (
	"slices"
	"strings"

	"pounce/api"
	"pounce/entity"
	"pounce/fold"
)

// otherSize is that of what begins neither a tag, nor a comment, nor a doctype, but is read as a comment.
const otherSize = 2

// reader tells the tokens of what its cursor has gone through. Text is held until another token is told, as there is one token for all of it.
type reader struct {
	cursor
	held   strings.Builder
	tokens []api.Token
	fails  []api.Fail
}

// read goes through what begins at the cursor's place, which is not the end.
func (r *reader) read() {
	switch {
	case r.beginsTag(endTagBegin):
		r.readTag(api.TokenEnd, endTagBegin)
	case r.beginsTag(tagBegin):
		r.readTag(api.TokenStart, tagBegin)
	case r.begins(commentBegin):
		r.readMarked(api.TokenComment, len(commentBegin), commentEnd)
	case r.begins(doctypeBegin):
		r.readMarked(api.TokenDoctype, len(doctypeBegin), tagEnd)
	case r.begins("<!"), r.begins("<?"), r.begins(endTagBegin):
		r.fail(api.ErrTokenSign, r.at)
		r.readMarked(api.TokenComment, otherSize, tagEnd)
	case r.begins(tagBegin):
		r.fail(api.ErrTokenSign, r.at)
		fallthrough
	default:
		r.readText()
	}
}

// readTag tells nothing of a tag that is cut, but that it is.
func (r *reader) readTag(kind api.TokenKind, begin string) {
	place, fails := r.at, r.fails
	r.skip(begin)
	t := api.Token{Kind: kind, Name: fold.Lower(r.takeUntil(slash + tagEnd))}
parts:
	for {
		between := r.skipAll(slash)
		switch {
		case r.atEnd():
			r.fails = fails
			r.fail(api.ErrTokenCut, place)
			return
		case r.skip(tagEnd):
			t.Closed = kind == api.TokenStart && strings.HasSuffix(between, slash)
			break parts
		default:
			r.readAttr(&t)
		}
	}
	r.tell(t)
	if kind == api.TokenStart && Raw(t.Name) {
		r.readRaw(t.Name)
	}
}

// readAttr reads an end tag's attributes too, but as none is taken, none is refused.
func (r *reader) readAttr(t *api.Token) {
	place := r.at
	name := fold.Lower(r.take(1) + r.takeUntil(slash+tagEnd+equal)) // the first byte may be an equal sign
	refused := refusal(t.Attrs, name)
	if refused != api.OK {
		r.fail(refused, place)
	}
	value := r.readValue()
	if t.Kind == api.TokenStart && refused == api.OK {
		t.Attrs = append(t.Attrs, api.Attr{Name: name, Value: value})
	}
}

// readValue answers the value behind an attribute's name. One whose quote is not closed goes on to the text's end, so that its tag is cut.
func (r *reader) readValue() string {
	r.skipAll("")
	if !r.skip(equal) {
		return ""
	}
	r.skipAll("")
	for _, sign := range [...]string{quote, oneQuote} {
		if r.skip(sign) {
			place := r.at
			value, _ := r.takeThrough(sign)
			return r.decoded(value, place)
		}
	}
	place := r.at
	return r.decoded(r.takeUntil(tagEnd), place)
}

// readRaw reads the text behind a start tag of a raw name, in which nothing begins but its end tag.
func (r *reader) readRaw(name string) {
	place := r.at
	end, closed := r.endTag(place, name)
	if !closed {
		end = len(r.text)
	}
	data := r.take(end - place)
	if !isCode(name) {
		data = r.decoded(data, place)
	}
	r.held.WriteString(data)
	if !closed {
		r.fail(api.ErrTokenCut, place)
	}
}

// readMarked reads a token that goes on until a sign, behind a beginning of that size.
func (r *reader) readMarked(kind api.TokenKind, size int, end string) {
	place := r.at
	r.take(size)
	data, closed := r.takeThrough(end)
	if kind == api.TokenDoctype {
		data = fold.Trim(data)
	}
	if !closed {
		r.fail(api.ErrTokenCut, place)
	}
	r.tell(api.Token{Kind: kind, Data: data})
}

// readText takes the first byte whatever it is, as a sign that begins no token is text itself.
func (r *reader) readText() {
	place := r.at
	size := strings.Index(r.left()[1:], tagBegin) + 1
	if size == 0 {
		size = len(r.left())
	}
	r.held.WriteString(r.decoded(r.take(size), place))
}

// decoded answers what a part of the text, which begins at a place, is decoded as, and tells its Fails.
func (r *reader) decoded(part string, place int) string {
	data, fails := entity.Decode(part)
	for _, f := range fails {
		r.fail(f.Code, place+f.At)
	}
	return data
}

func (r *reader) fail(code api.Errno, place int) {
	r.fails = append(r.fails, api.Fail{Code: code, At: place})
}

// tell tells a token, behind the text that is held.
func (r *reader) tell(t api.Token) {
	r.tellText()
	r.tokens = append(r.tokens, t)
}

func (r *reader) tellText() {
	if r.held.Len() > 0 {
		r.tokens = append(r.tokens, api.Token{Kind: api.TokenText, Data: r.held.String()})
		r.held.Reset()
	}
}

// refusal answers why an attribute of that name is not taken behind those that are.
func refusal(taken []api.Attr, name string) api.Errno {
	switch {
	case slices.ContainsFunc(taken, func(a api.Attr) bool { return a.Name == name }):
		return api.ErrTokenTwice
	case len(taken) == api.MaxAttrs:
		return api.ErrLimit
	}
	return api.OK
}
