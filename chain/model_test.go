package chain_test

import (
	"strings"

	"pounce/allow"
	"pounce/api"
	"pounce/source"
)

// The model: names stand in a table of texts, a policy is laid as a map from its last directive to its first, and the names are gone through from the last to the first, so that what is there first is what is left. It is what the package is held against.

var modelNames = map[api.RequestKind]string{
	1: "script-src-elem script-src default-src",
	2: "script-src-elem script-src default-src",
	3: "script-src-attr script-src default-src",
	4: "script-src-elem script-src default-src",
	5: "script-src default-src",
	6: "script-src default-src",
}

// modelQuestions are what is asked of the sources, by kind.
var modelQuestions = map[api.RequestKind]func([]api.Source, api.Request) bool{
	1: func(l []api.Source, r api.Request) bool { return allow.Inline(l, 1, r.Nonce, r.Text) },
	2: func(l []api.Source, r api.Request) bool { return allow.Fetch(l, r) },
	3: func(l []api.Source, r api.Request) bool { return allow.Inline(l, 3, "", r.Text) }, // an attribute's nonce plays no part
	4: func(l []api.Source, r api.Request) bool { return allow.Inline(l, 4, "", r.Text) },
	5: func(l []api.Source, r api.Request) bool { return allow.Eval(l, 5) },
	6: func(l []api.Source, r api.Request) bool { return allow.Eval(l, 6) },
}

// modelEffective answers an empty name, if there is none.
func modelEffective(p api.Policy, k api.RequestKind) ([]api.Source, string) {
	words := map[string][]string{}
	for at := len(p.Directives) - 1; at >= 0; at-- {
		words[p.Directives[at].Name] = p.Directives[at].Words
	}
	name := ""
	names := strings.Fields(modelNames[k])
	for at := len(names) - 1; at >= 0; at-- {
		if _, there := words[names[at]]; there {
			name = names[at]
		}
	}
	if name == "" {
		return nil, ""
	}
	l := []api.Source{}
	for _, w := range words[name] {
		if s, ok := source.Parse(w); ok {
			l = append(l, s)
		}
	}
	return l, name
}

func modelOne(p api.Policy, r api.Request) (bool, string) {
	l, name := modelEffective(p, r.Kind)
	return name == "" || modelQuestions[r.Kind](l, r), name
}

func modelAll(l []api.Policy, r api.Request) api.Verdict {
	blocks, strict := []api.Break{}, 0
	for at := range l {
		if ok, name := modelOne(l[at], r); !ok {
			blocks = append(blocks, api.Break{Policy: at, Name: name, Report: l[at].Report})
			if !l[at].Report {
				strict++
			}
		}
	}
	return api.Verdict{Ok: strict == 0, Blocks: blocks}
}
