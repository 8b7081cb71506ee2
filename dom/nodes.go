package dom

import (
	"iter"
	"slices"

	"pounce/api"
)

// walk goes through a node and all below it, in document order. The document must be right: in a circle there is no end.
func walk(l []api.Node, n int) iter.Seq[int] {
	return func(yield func(int) bool) {
		if !yield(n) {
			return
		}
		for _, kid := range l[n].Kids {
			for at := range walk(l, kid) {
				if !yield(at) {
					return
				}
			}
		}
	}
}

// isBelow tells whether other is n or below it.
func isBelow(l []api.Node, n, other int) bool {
	for at := range walk(l, n) {
		if at == other {
			return true
		}
	}
	return false
}

// changed hands back a copy of a document, or of a node, as change leaves it. The one itself stays as it is: copied makes all of it new.
func changed[T api.Doc | api.Node](one T, copied func(T) T, change func(*T)) T {
	out := copied(one)
	change(&out)
	return out
}

func copyDoc(d api.Doc) api.Doc {
	d.Nodes = slices.Clone(d.Nodes)
	for at, n := range d.Nodes {
		d.Nodes[at] = copyNode(n)
	}
	return d
}

func copyNode(n api.Node) api.Node {
	n.Attrs, n.Kids = slices.Clone(n.Attrs), slices.Clone(n.Kids)
	return n
}

// take takes a node from where it stands, if it stands anywhere.
func take(l []api.Node, n int) {
	parent := l[n].Parent
	if parent == nowhere {
		return
	}
	at := slices.Index(l[parent].Kids, n)
	l[parent].Kids = slices.Delete(l[parent].Kids, at, at+1)
	l[n].Parent = nowhere
}

func lay(l []api.Node, parent, n int) {
	l[n].Parent = parent
	l[parent].Kids = append(l[parent].Kids, n)
}

func setAttr(n *api.Node, name, value string) {
	if at := attrPlace(n.Attrs, name); at >= 0 {
		n.Attrs[at].Value = value
		return
	}
	n.Attrs = append(n.Attrs, api.Attr{Name: name, Value: value})
}
