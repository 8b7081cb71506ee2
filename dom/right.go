package dom

import (
	"slices"

	"pounce/api"
)

// nowhere is the Parent of a node that stands nowhere.
const nowhere = -1

func isThere(d api.Doc, n int) bool {
	return isNode(d.Nodes, n) && Check(d) == api.OK
}

func isNode(l []api.Node, n int) bool { return 0 <= n && n < len(l) }

func takesKids(n api.Node) bool {
	return n.Kind == api.NodeRoot || n.Kind == api.NodeElement
}

// mayBe tells whether a node may be, wherever it stands.
func mayBe(n api.Node) bool {
	switch n.Kind {
	case api.NodeElement:
		return n.Name != "" && n.Data == "" && len(n.Attrs) <= api.MaxAttrs && differ(n.Attrs)
	case api.NodeText, api.NodeComment:
		return isBare(n) && len(n.Kids) == 0
	case api.NodeRoot:
		return isBare(n) && n.Data == ""
	}
	return false
}

// isBare tells whether a node has nothing that only elements have.
func isBare(n api.Node) bool {
	return n.Name == "" && len(n.Attrs) == 0 && !n.Parser && !n.Started
}

func differ(l []api.Attr) bool {
	for at, a := range l {
		if attrPlace(l[:at], a.Name) >= 0 {
			return false
		}
	}
	return true
}

// attrPlace answers the place of the attribute of that name, or one below 0.
func attrPlace(l []api.Attr, name string) int {
	return slices.IndexFunc(l, func(a api.Attr) bool { return a.Name == name })
}

// right tells whether nodes, however many, are a right document's.
func right(l []api.Node) bool {
	for at, n := range l {
		if !mayBe(n) || (n.Kind == api.NodeRoot) != (at == 0) {
			return false
		}
	}
	return len(l) > 0 && l[0].Parent == nowhere && placed(l) && reached(l) == len(l)
}

// placed tells whether each node that has a Parent is among its Kids, once, and nothing else is among anyone's. Whether a Parent is one that takes Kids needs no look: those that take none may not have any.
func placed(l []api.Node) bool {
	stands := make([]bool, len(l))
	for at, n := range l {
		for _, kid := range n.Kids {
			if !isNode(l, kid) || l[kid].Parent != at || stands[kid] {
				return false
			}
			stands[kid] = true
		}
	}
	for at, n := range l {
		if n.Parent != nowhere && !stands[at] {
			return false
		}
	}
	return true
}

// reached counts the nodes that stand nowhere and all below them, which are all but those in a circle and below it. The nodes must be placed: so each is reached once, if at all.
func reached(l []api.Node) int {
	var row []int
	for at, n := range l {
		if n.Parent == nowhere {
			row = append(row, at)
		}
	}
	for at := 0; at < len(row); at++ {
		row = append(row, l[row[at]].Kids...)
	}
	return len(row)
}
