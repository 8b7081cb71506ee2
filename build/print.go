package build

import (
	"strings"

	"pounce/api"
	"pounce/entity"
	"pounce/token"
)

// printer tells nodes of a right document as text.
type printer struct {
	nodes []api.Node
	told  strings.Builder
}

func (p *printer) print(n int) {
	switch node := p.nodes[n]; node.Kind {
	case api.NodeRoot:
		p.printKids(node)
	case api.NodeText:
		p.printText(node)
	case api.NodeComment:
		p.printToken(api.Token{Kind: api.TokenComment, Data: node.Data})
	case api.NodeElement:
		p.printElement(node)
	}
}

func (p *printer) printKids(node api.Node) {
	for _, kid := range node.Kids {
		p.print(kid)
	}
}

func (p *printer) printText(node api.Node) {
	if p.isCode(node.Parent) {
		p.told.WriteString(node.Data)
		return
	}
	p.told.WriteString(entity.Encode(node.Data))
}

// isCode tells whether the texts in a node, or in none, are as they are, with no sign told by name.
func (p *printer) isCode(parent int) bool {
	if !isNode(p.nodes, parent) {
		return false
	}
	name := p.nodes[parent].Name
	return name == "script" || name == "style"
}

func (p *printer) printElement(node api.Node) {
	p.printToken(api.Token{Kind: api.TokenStart, Name: node.Name, Attrs: node.Attrs})
	if Void(node.Name) {
		return
	}
	p.printKids(node)
	p.printToken(api.Token{Kind: api.TokenEnd, Name: node.Name})
}

func (p *printer) printToken(t api.Token) {
	p.told.WriteString(token.Print([]api.Token{t}))
}
