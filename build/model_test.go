package build_test

import (
	"slices"
	"strings"

	"pounce/api"
	"pounce/dom"
	"pounce/entity"
)

// The model: whether a token's element is open ahead of another token is asked for each pair of tokens, and told as a table; from that each token's place is told, and the document is written down at once. A document is printed from its last node to its first, each one's text being made of its kids'.

// modelOpen answers, for each place ahead of a token and behind the last one, the places of the tokens whose elements are open there.
func modelOpen(l []api.Token) [][]int {
	table := [][]int{{}}
	for at, t := range l {
		var open []int
		named := func(place int) bool { return l[place].Name == t.Name }
		for _, place := range table[at] {
			behind := slices.ContainsFunc(table[at], func(other int) bool { return other > place && named(other) })
			ended := t.Kind == api.TokenEnd && slices.ContainsFunc(table[at], named) && (behind == false && named(place) || modelLast(table[at], named) < place)
			if !ended {
				open = append(open, place)
			}
		}
		if t.Kind == api.TokenStart && modelOpens(t) && len(open)+1 < 30 {
			open = append(open, at)
		}
		table = append(table, open)
	}
	return table
}

func modelLast(l []int, is func(int) bool) int {
	last := -1
	for _, one := range l {
		if is(one) {
			last = max(last, one)
		}
	}
	return last
}

func modelOpens(t api.Token) bool {
	return !t.Closed && !strings.Contains(" br hr img input link meta ", " "+t.Name+" ")
}

func modelFails(l []api.Token) []api.Fail {
	var fails []api.Fail
	table := modelOpen(l)
	for at, t := range l {
		ahead, behind := len(table[at]), len(table[at+1])
		switch {
		case t.Kind == api.TokenEnd && ahead == behind:
			fails = append(fails, api.Fail{Code: 160, At: at})
		case t.Kind == api.TokenEnd && ahead-behind > 1:
			fails = append(fails, api.Fail{Code: 162, At: at})
		case t.Kind == api.TokenStart && modelOpens(t) && ahead == behind:
			fails = append(fails, api.Fail{Code: 161, At: at})
		}
	}
	if len(table[len(l)]) > 0 {
		fails = append(fails, api.Fail{Code: 162, At: len(l)})
	}
	return fails
}

// modelError answers the error of the first token that may not be a node, or for which there is no room.
func modelError(d api.Doc, l []api.Token) api.Errno {
	room := 300 - len(d.Nodes)
	for _, t := range l {
		names := map[string]bool{}
		for _, a := range t.Attrs {
			names[a.Name] = true
		}
		switch {
		case t.Kind < 1 || t.Kind == 3 || t.Kind > 4:
			continue
		case t.Kind == 2 && (t.Name == "" || len(t.Attrs) > 30 || len(names) < len(t.Attrs)):
			return api.ErrArg
		case room == 0:
			return api.ErrLimit
		}
		room--
	}
	return api.OK
}

func modelInto(d api.Doc, n int, l []api.Token, parser bool) (api.Doc, []api.Fail, api.Errno) {
	if err := dom.Check(d); err != api.OK {
		return api.Doc{}, nil, err
	}
	if n < 0 || n >= len(d.Nodes) || d.Nodes[n].Kind > 2 {
		return api.Doc{}, nil, api.ErrDomNode
	}
	if err := modelError(d, l); err != api.OK {
		return api.Doc{}, nil, err
	}
	out := copyOf(d)
	number := map[int]int{-1: n} // by the tokens' places
	for at, open := range modelOpen(l)[:len(l)] {
		var node api.Node
		switch l[at].Kind {
		case 1:
			node = api.Node{Kind: 3, Data: l[at].Data}
		case 2:
			node = api.Node{Kind: 2, Name: l[at].Name, Attrs: slices.Clone(l[at].Attrs), Parser: parser}
		case 4:
			node = api.Node{Kind: 4, Data: l[at].Data}
		default:
			continue
		}
		number[at] = len(out.Nodes)
		node.Parent = number[modelLast(open, func(int) bool { return true })]
		out.Nodes[node.Parent].Kids = append(out.Nodes[node.Parent].Kids, number[at])
		out.Nodes = append(out.Nodes, node)
	}
	return out, modelFails(l), api.OK
}

func modelPrint(d api.Doc, n int) string {
	below := dom.Below(d, n)
	if len(below) == 0 {
		return ""
	}
	slices.Reverse(below)
	texts := map[int]string{}
	for _, at := range below {
		node, inner := d.Nodes[at], ""
		for _, kid := range node.Kids {
			inner += texts[kid]
		}
		switch node.Kind {
		case 1:
			texts[at] = inner
		case 2:
			begin := "<" + node.Name
			for _, a := range node.Attrs {
				begin += " " + a.Name + "=\"" + entity.Encode(a.Value) + "\""
			}
			texts[at] = begin + ">" + inner + "</" + node.Name + ">"
			if !modelOpens(api.Token{Name: node.Name}) {
				texts[at] = begin + ">"
			}
		case 3:
			texts[at] = entity.Encode(node.Data)
			if node.Parent != -1 && slices.Contains([]string{"script", "style"}, d.Nodes[node.Parent].Name) {
				texts[at] = node.Data
			}
		case 4:
			texts[at] = "<!--" + node.Data + "-->"
		}
	}
	return texts[n]
}

// copyOf answers a document of its own memory.
func copyOf(d api.Doc) api.Doc {
	var out api.Doc
	for _, n := range d.Nodes {
		n.Attrs = append([]api.Attr{}, n.Attrs...)
		n.Kids = append([]int{}, n.Kids...)
		out.Nodes = append(out.Nodes, n)
	}
	return out
}

// copyTokens answers tokens of their own memory.
func copyTokens(l []api.Token) []api.Token {
	var out []api.Token
	for _, t := range l {
		t.Attrs = append([]api.Attr{}, t.Attrs...)
		out = append(out, t)
	}
	return out
}

// sameNode answers whether two nodes are the same; a list that is empty may be nil.
func sameNode(a, b api.Node) bool {
	return a.Kind == b.Kind && a.Name == b.Name && a.Data == b.Data && slices.Equal(a.Attrs, b.Attrs) && a.Parent == b.Parent && slices.Equal(a.Kids, b.Kids) && a.Parser == b.Parser && a.Started == b.Started
}

func same(a, b api.Doc) bool { return slices.EqualFunc(a.Nodes, b.Nodes, sameNode) }

func sameToken(a, b api.Token) bool {
	return a.Kind == b.Kind && a.Name == b.Name && a.Data == b.Data && slices.Equal(a.Attrs, b.Attrs) && a.Closed == b.Closed
}

func sameTokens(a, b []api.Token) bool { return slices.EqualFunc(a, b, sameToken) }

// eachRow calls yield with each row of that many of the tokens.
func eachRow(tokens []api.Token, count int, yield func([]api.Token)) {
	if count == 0 {
		yield(nil)
		return
	}
	eachRow(tokens, count-1, func(begin []api.Token) {
		for _, t := range tokens {
			yield(append(slices.Clip(begin), t))
		}
	})
}
