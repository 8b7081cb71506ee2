package dom_test

import (
	"slices"
	"strings"

	"pounce/api"
)

// The model: what is right is asked word by word, for each pair of nodes; a document's order is that of its nodes' paths, which are the places at which one goes down; and a changed document is laid anew from where each node is to stand.

// modelMayBe answers whether a node may be.
func modelMayBe(n api.Node) bool {
	names := map[string]bool{}
	for _, a := range n.Attrs {
		names[a.Name] = true
	}
	noText := !n.Parser && !n.Started && len(n.Attrs) == 0 && n.Name == ""
	switch n.Kind {
	case api.NodeElement:
		return n.Name != "" && n.Data == "" && len(n.Attrs) <= 30 && len(names) == len(n.Attrs)
	case api.NodeText, api.NodeComment:
		return noText && len(n.Kids) == 0
	case api.NodeRoot:
		return noText && n.Data == ""
	default:
		return false
	}
}

// modelTop answers how many steps there are from n, from Parent to Parent, to one whose Parent is -1, and this one; more steps than there are nodes, if there is none.
func modelTop(l []api.Node, n int) (int, int) {
	steps := 0
	for ; l[n].Parent != -1 && steps <= len(l); steps++ {
		n = l[n].Parent
	}
	return n, steps
}

// modelRight answers whether a document is right.
func modelRight(l []api.Node) bool {
	if len(l) < 1 || len(l) > 300 {
		return false
	}
	for at, n := range l {
		if !modelMayBe(n) || (n.Kind == api.NodeRoot) != (at == 0) {
			return false
		}
		if n.Parent < -1 || n.Parent >= len(l) || at == 0 && n.Parent != -1 {
			return false
		}
		if n.Parent != -1 && l[n.Parent].Kind != api.NodeRoot && l[n.Parent].Kind != api.NodeElement {
			return false
		}
		for _, kid := range n.Kids {
			if kid < 0 || kid >= len(l) {
				return false
			}
		}
		for other, o := range l {
			times := 0
			for _, kid := range o.Kids {
				if kid == at {
					times++
				}
			}
			if n.Parent == other && times != 1 || n.Parent != other && times != 0 {
				return false
			}
		}
	}
	for at := range l {
		if _, steps := modelTop(l, at); steps > len(l) {
			return false
		}
	}
	return true
}

func modelCheck(d api.Doc) api.Errno {
	if len(d.Nodes) > 300 {
		return api.ErrLimit
	}
	if !modelRight(d.Nodes) {
		return api.ErrDomForm
	}
	return api.OK
}

func modelThere(d api.Doc, n int) bool { return modelRight(d.Nodes) && n >= 0 && n < len(d.Nodes) }

// modelPath answers the places at which one goes down from n's top to n.
func modelPath(l []api.Node, n int) []int {
	var path []int
	for l[n].Parent != -1 {
		path = append([]int{slices.Index(l[l[n].Parent].Kids, n)}, path...)
		n = l[n].Parent
	}
	return path
}

// modelBelow sorts the nodes whose way up leads by n.
func modelBelow(d api.Doc, n int) []int {
	if !modelThere(d, n) {
		return nil
	}
	var below []int
	var paths [][]int
	for at := range d.Nodes {
		paths = append(paths, modelPath(d.Nodes, at))
	}
	top, _ := modelTop(d.Nodes, n)
	for at, path := range paths {
		own, _ := modelTop(d.Nodes, at)
		if own == top && len(path) >= len(paths[n]) && slices.Equal(path[:len(paths[n])], paths[n]) {
			below = append(below, at)
		}
	}
	slices.SortFunc(below, func(a, b int) int { return slices.Compare(paths[a], paths[b]) })
	return below
}

func modelText(d api.Doc, n int) string {
	text := ""
	for _, at := range modelBelow(d, n) {
		if d.Nodes[at].Kind == api.NodeText {
			text += d.Nodes[at].Data
		}
	}
	return text
}

func modelIn(d api.Doc, n int) bool { return slices.Contains(modelBelow(d, 0), n) }

func modelAttr(d api.Doc, n int, name string) (string, bool) {
	if modelThere(d, n) {
		for _, a := range d.Nodes[n].Attrs {
			if a.Name == name {
				return a.Value, true
			}
		}
	}
	return "", false
}

func modelMake(d api.Doc, n api.Node) (api.Doc, int, api.Errno) {
	if err := modelCheck(d); err != api.OK {
		return api.Doc{}, 0, err
	}
	made := api.Node{Kind: n.Kind, Name: n.Name, Data: n.Data, Attrs: n.Attrs, Parent: -1, Parser: n.Parser, Started: n.Started}
	if n.Kind == api.NodeRoot || !modelMayBe(made) {
		return api.Doc{}, 0, api.ErrArg
	}
	if len(d.Nodes) >= 300 {
		return api.Doc{}, 0, api.ErrLimit
	}
	return api.Doc{Nodes: append(copyOf(d).Nodes, copyOf(api.Doc{Nodes: []api.Node{made}}).Nodes...)}, len(d.Nodes), api.OK
}

// modelMove lays a document anew, in which n stands as parent's last kid.
func modelMove(d api.Doc, parent, n int) api.Doc {
	out := copyOf(d)
	for at := range out.Nodes {
		out.Nodes[at].Kids = nil
	}
	out.Nodes[n].Parent = parent
	for at, one := range d.Nodes {
		for _, kid := range one.Kids {
			if kid != n {
				out.Nodes[at].Kids = append(out.Nodes[at].Kids, kid)
			}
		}
	}
	if parent != -1 {
		out.Nodes[parent].Kids = append(out.Nodes[parent].Kids, n)
	}
	return out
}

func modelPut(d api.Doc, parent, n int) (api.Doc, api.Errno) {
	if err := modelCheck(d); err != api.OK {
		return api.Doc{}, err
	}
	if !modelThere(d, parent) || !modelThere(d, n) || n == 0 || d.Nodes[parent].Kind == api.NodeText || d.Nodes[parent].Kind == api.NodeComment {
		return api.Doc{}, api.ErrDomNode
	}
	if slices.Contains(modelBelow(d, n), parent) {
		return api.Doc{}, api.ErrDomCircle
	}
	return modelMove(d, parent, n), api.OK
}

func modelCut(d api.Doc, n int) (api.Doc, api.Errno) {
	if err := modelCheck(d); err != api.OK {
		return api.Doc{}, err
	}
	if !modelThere(d, n) || n == 0 {
		return api.Doc{}, api.ErrDomNode
	}
	return modelMove(d, -1, n), api.OK
}

func modelSet(d api.Doc, n int, name, value string) (api.Doc, api.Errno) {
	if err := modelCheck(d); err != api.OK {
		return api.Doc{}, err
	}
	if !modelThere(d, n) || d.Nodes[n].Kind != api.NodeElement {
		return api.Doc{}, api.ErrDomNode
	}
	out, found := copyOf(d), false
	for at, a := range out.Nodes[n].Attrs {
		if a.Name == name {
			out.Nodes[n].Attrs[at].Value, found = value, true
		}
	}
	if !found {
		out.Nodes[n].Attrs = append(out.Nodes[n].Attrs, api.Attr{Name: name, Value: value})
	}
	if len(out.Nodes[n].Attrs) > 30 {
		return api.Doc{}, api.ErrLimit
	}
	return out, api.OK
}

// copyOf answers a document of its own memory.
func copyOf(d api.Doc) api.Doc {
	var out api.Doc
	for _, n := range d.Nodes {
		n.Attrs = append([]api.Attr{}, n.Attrs...)
		n.Kids = append([]int{}, n.Kids...)
		n.Name, n.Data = strings.Clone(n.Name), strings.Clone(n.Data)
		out.Nodes = append(out.Nodes, n)
	}
	return out
}

// sameNode answers whether two nodes are the same; a list that is empty may be nil.
func sameNode(a, b api.Node) bool {
	return a.Kind == b.Kind && a.Name == b.Name && a.Data == b.Data && slices.Equal(a.Attrs, b.Attrs) && a.Parent == b.Parent && slices.Equal(a.Kids, b.Kids) && a.Parser == b.Parser && a.Started == b.Started
}

func same(a, b api.Doc) bool { return slices.EqualFunc(a.Nodes, b.Nodes, sameNode) }
