package build

import (
	"slices"

	"pounce/api"
	"pounce/dom"
)

// openElement is a node that others are put into. The first one has no name here, whatever it is: no end tag ends it.
type openElement struct {
	node int
	name string
}

// builder lays tokens as nodes of a document.
type builder struct {
	doc    api.Doc
	open   stack[openElement]
	parser bool
	fails  []api.Fail
}

func newBuilder(d api.Doc, n int, parser bool) *builder {
	b := builder{doc: copied(d), parser: parser}
	b.open.push(openElement{node: n})
	return &b
}

// copied makes all of a document new: where no token is made a node, nothing else does.
func copied(d api.Doc) api.Doc {
	d.Nodes = slices.Clone(d.Nodes)
	for at, n := range d.Nodes {
		d.Nodes[at].Attrs, d.Nodes[at].Kids = slices.Clone(n.Attrs), slices.Clone(n.Kids)
	}
	return d
}

// way answers how a token of that kind, at a place, is laid.
func (b *builder) way(kind api.TokenKind) func(api.Token, int) api.Errno {
	switch kind {
	case api.TokenText:
		return b.layText
	case api.TokenComment:
		return b.layComment
	case api.TokenStart:
		return b.layStart
	case api.TokenEnd:
		return b.layEnd
	}
	return b.layNothing
}

func (b *builder) layNothing(api.Token, int) api.Errno { return api.OK }

func (b *builder) layText(t api.Token, _ int) api.Errno {
	_, err := b.put(api.Node{Kind: api.NodeText, Data: t.Data})
	return err
}

func (b *builder) layComment(t api.Token, _ int) api.Errno {
	_, err := b.put(api.Node{Kind: api.NodeComment, Data: t.Data})
	return err
}

func (b *builder) layStart(t api.Token, at int) api.Errno {
	n, err := b.put(api.Node{Kind: api.NodeElement, Name: t.Name, Attrs: t.Attrs, Parser: b.parser})
	switch {
	case err != api.OK || t.Closed || Void(t.Name):
		return err
	case b.open.count() == api.MaxDepth:
		b.fail(api.ErrBuildDeep, at)
		return api.OK
	}
	b.open.push(openElement{node: n, name: t.Name})
	return api.OK
}

func (b *builder) layEnd(t api.Token, at int) api.Errno {
	ended := b.open.find(func(e openElement) bool { return e.name == t.Name })
	if ended < 1 {
		b.fail(api.ErrBuildEnd, at)
		return api.OK
	}
	if b.open.count() > ended+1 {
		b.fail(api.ErrBuildOpen, at)
	}
	b.open.cut(ended)
	return api.OK
}

// close tells of what is open still behind the last token.
func (b *builder) close(at int) {
	if b.open.count() > 1 {
		b.fail(api.ErrBuildOpen, at)
	}
}

// put makes a node, and puts it into the last open element. That takes kids, and is not below what is new: so there is no other error than Make's.
func (b *builder) put(n api.Node) (int, api.Errno) {
	made, at, err := dom.Make(b.doc, n)
	if err != api.OK {
		return 0, err
	}
	b.doc, err = dom.Put(made, b.open.top().node, at)
	return at, err
}

func (b *builder) fail(code api.Errno, at int) {
	b.fails = append(b.fails, api.Fail{Code: code, At: at})
}
