package build_test

import (
	"math"
	"math/rand/v2"
	"slices"
	"strconv"
	"strings"
	"testing"

	"pounce/api"
	"pounce/build"
	"pounce/dom"
	"pounce/entity"
	"pounce/feed"
	"pounce/token"
)

// start answers a start tag with these attributes, told as names and values.
func start(name string, attrs ...string) api.Token {
	t := api.Token{Kind: api.TokenStart, Name: name}
	for at := 0; at < len(attrs); at += 2 {
		t.Attrs = append(t.Attrs, api.Attr{Name: attrs[at], Value: attrs[at+1]})
	}
	return t
}

// closed answers a start tag that is Closed.
func closed(name string) api.Token {
	return api.Token{Kind: api.TokenStart, Name: name, Closed: true}
}

func end(name string) api.Token { return api.Token{Kind: api.TokenEnd, Name: name} }

func text(data string) api.Token { return api.Token{Kind: api.TokenText, Data: data} }

func comment(data string) api.Token { return api.Token{Kind: api.TokenComment, Data: data} }

func doctype(data string) api.Token { return api.Token{Kind: api.TokenDoctype, Data: data} }

// tokens answers these as a list.
func tokens(l ...api.Token) []api.Token { return l }

// times answers that many of a token.
func times(t api.Token, count int) []api.Token { return slices.Repeat(tokens(t), count) }

// withMany answers a start tag with that many attributes, by the names 0, 1, and so on.
func withMany(name string, count int) api.Token {
	t := start(name)
	for at := range count {
		t.Attrs = append(t.Attrs, api.Attr{Name: strconv.Itoa(at), Value: "v"})
	}
	return t
}

// read answers the tokens of a text, and whether there is no Fail.
func read(t *testing.T, s string) ([]api.Token, bool) {
	t.Helper()
	l, fails, err := token.Tokens(s)
	if err != api.OK {
		t.Fatalf("the tokens of %d bytes: %d", len(s), err)
	}
	return l, len(fails) == 0
}

// root answers a root with these below it.
func root(kids ...int) api.Node {
	return api.Node{Kind: api.NodeRoot, Parent: -1, Kids: kids}
}

// element answers an element that stands there, with these below it.
func element(name string, parent int, kids ...int) api.Node {
	return api.Node{Kind: api.NodeElement, Name: name, Parent: parent, Kids: kids}
}

// laid answers an element that the parser laid there.
func laid(name string, parent int, kids ...int) api.Node {
	n := element(name, parent, kids...)
	n.Parser = true
	return n
}

func textNode(data string, parent int) api.Node {
	return api.Node{Kind: api.NodeText, Data: data, Parent: parent}
}

func commentNode(data string, parent int) api.Node {
	return api.Node{Kind: api.NodeComment, Data: data, Parent: parent}
}

// doc answers a document of these nodes.
func doc(l ...api.Node) api.Doc { return api.Doc{Nodes: l} }

// page is a right document: a (b, the text x, the comment y, br (the text z)), script (the text <, c (the text >)); and, nowhere, a (the text v) and the text u.
func page() api.Doc {
	a, b := element("a", 0, 2, 3, 4, 5), element("b", 1)
	a.Attrs = []api.Attr{{Name: "p", Value: "<\"1\">"}, {Name: "q"}}
	b.Attrs = []api.Attr{{Name: "p", Value: "2"}}
	b.Started = true
	return doc(
		root(1, 7), a, b, textNode("x", 1), commentNode("y", 1),
		laid("br", 1, 6), textNode("z", 5),
		laid("script", 0, 8, 9), textNode("<", 7), element("c", 7, 10), textNode(">", 9),
		element("a", -1, 12), textNode("v", 11), textNode("u&", -1),
	)
}

// many answers a document of that many nodes, all of them right below the root.
func many(count int) api.Doc {
	d := doc(root())
	for at := 1; at < count; at++ {
		d.Nodes[0].Kids = append(d.Nodes[0].Kids, at)
		d.Nodes = append(d.Nodes, element("e", 0))
	}
	return d
}

// deep answers a document of that many nodes, each of which is below the one ahead of it.
func deep(count int) api.Doc {
	d := doc(root())
	for at := 1; at < count; at++ {
		d.Nodes[at-1].Kids = []int{at}
		d.Nodes = append(d.Nodes, element("e", at-1))
	}
	return d
}

// wrong answers documents that are not right.
func wrong() []api.Doc {
	return []api.Doc{
		{}, doc(element("a", -1)), doc(api.Node{Kind: api.NodeRoot}), doc(root(), root()), doc(root(1)), doc(root(1, 1), element("a", 0)),
		doc(root(), element("a", 0)), doc(root(), element("", -1)), doc(root(), element("a", 2, 2), element("a", 1, 1)), doc(root(0)),
		doc(root(), textNode("x", -1), element("a", 1)), doc(root(), element("a", 1, 1)), doc(root(1), element("a", math.MaxInt)), doc(root(-1)),
	}
}

// numbers are those of nodes that are there in some documents, and of nodes that are in none.
var numbers = []int{math.MinInt, -2, -1, 0, 1, 2, 3, 4, 5, 6, 7, 8, 9, 10, 11, 12, 13, 14, 299, 300, 301, math.MaxInt}

// scribble writes over all of a document's memory, also behind its lists' ends.
func scribble(d api.Doc) {
	for _, n := range d.Nodes {
		scribbleLists(n, 0, 0)
	}
	for at := range d.Nodes[:cap(d.Nodes)] {
		d.Nodes[:cap(d.Nodes)][at] = api.Node{Kind: 77, Name: "?"}
	}
}

// scribbleLists writes over a node's lists, from these places on.
func scribbleLists(n api.Node, attrs, kids int) {
	for at := attrs; at < cap(n.Attrs); at++ {
		n.Attrs[:cap(n.Attrs)][at] = api.Attr{Name: "?", Value: "?"}
	}
	for at := kids; at < cap(n.Kids); at++ {
		n.Kids[:cap(n.Kids)][at] = 777
	}
}

// checkInto holds Into against the model, and what follows from it.
func checkInto(t *testing.T, d api.Doc, n int, l []api.Token, parser bool) {
	t.Helper()
	was, given := copyOf(d), copyTokens(l)
	want, wantFails, wantErr := modelInto(d, n, l, parser)
	out, fails, err := build.Into(d, n, l, parser)
	again, failsAgain, _ := build.Into(d, n, l, parser)
	if err != wantErr || !slices.Equal(fails, wantFails) || !same(out, want) {
		t.Fatalf("P17.1: Into of %s, %d, %s: %s %v, %d, not %s %v, %d", shape(was), n, token.Print(l), shape(out), fails, err, shape(want), wantFails, wantErr)
	}
	if err != api.OK && (out.Nodes != nil || fails != nil) {
		t.Fatalf("R1: Into of %s, %d, %s: beside %d there is %s %v", shape(was), n, token.Print(l), err, shape(out), fails)
	}
	if err == api.OK {
		checkLaid(t, d, n, l, out)
	}
	scribble(out)
	for at := range fails[:cap(fails)] {
		fails[:cap(fails)][at] = api.Fail{Code: 77, At: 777}
	}
	if !same(d, was) || !sameTokens(l, given) {
		t.Fatalf("R2: Into of %s, %d, %s changes what is handed in, or shares its memory", shape(was), n, token.Print(given))
	}
	if !same(again, want) || !slices.Equal(failsAgain, wantFails) {
		t.Fatalf("R2: Into of %s, %d, %s: what came out later has the memory of what came out", shape(was), n, token.Print(given))
	}
}

// checkLaid tells what follows for a document that tokens were laid in.
func checkLaid(t *testing.T, d api.Doc, n int, l []api.Token, out api.Doc) {
	t.Helper()
	if err := dom.Check(out); err != api.OK {
		t.Fatalf("P17.3: what is laid is not right: %d, %s", err, shape(out))
	}
	came := copyOf(out)
	for _, node := range out.Nodes {
		scribbleLists(node, len(node.Attrs), len(node.Kids))
	}
	if !same(out, came) {
		t.Fatalf("R2: lists of what comes out share memory: %s", shape(came))
	}
	for at, node := range d.Nodes {
		now := out.Nodes[at]
		if at == n {
			if !slices.Equal(now.Kids[:min(len(node.Kids), len(now.Kids))], node.Kids) {
				t.Fatalf("P17.3: the kids %v of node %d do not stay ahead: %v", node.Kids, n, now.Kids)
			}
			now.Kids = node.Kids
		}
		if !sameNode(node, now) {
			t.Fatalf("P17.3: node %d does not stay: %+v, not %+v", at, now, node)
		}
	}
	told := ""
	for _, one := range l {
		if one.Kind == api.TokenText {
			told += one.Data
		}
	}
	if !strings.HasSuffix(dom.Text(out, n), told) {
		t.Fatalf("P17.3: the text is %q, not %q", dom.Text(out, n), told)
	}
}

// checkPrint holds Print against the model.
func checkPrint(t *testing.T, d api.Doc, n int) {
	t.Helper()
	was := copyOf(d)
	if s, want := build.Print(d, n), modelPrint(d, n); s != want || s != build.Print(d, n) {
		t.Fatalf("P17.2: Print(%d) of %s: %q, not %q", n, shape(d), s, want)
	}
	if !same(d, was) {
		t.Fatalf("R2: Print changes what is handed in: %s, not %s", shape(d), shape(was))
	}
}

// shape tells a document, for a test's words.
func shape(d api.Doc) string {
	var told strings.Builder
	for at, n := range d.Nodes {
		told.WriteString("[" + strconv.Itoa(at) + " kind " + strconv.Itoa(int(n.Kind)) + " " + n.Name + n.Data)
		for _, a := range n.Attrs {
			told.WriteString(" " + a.Name + "=" + strconv.Quote(a.Value))
		}
		told.WriteString(" in " + strconv.Itoa(n.Parent) + " kids")
		for _, kid := range n.Kids {
			told.WriteString(" " + strconv.Itoa(kid))
		}
		told.WriteString("]")
	}
	return told.String()
}

// P17.1, P17.2: the chapter's examples, and DOC.md's.
func TestExamples(t *testing.T) {
	for _, x := range []struct {
		document, printed string
		fails             []api.Fail
	}{
		{"<a><b>x</a>y", "<a><b>x</b></a>y", []api.Fail{{Code: 162, At: 3}}},
		{"</a><br>x<i/>", "<br>x<i></i>", []api.Fail{{Code: 160, At: 0}}},
	} {
		l, _ := read(t, x.document)
		d, fails, err := build.Page(l)
		if err != api.OK || !slices.Equal(fails, x.fails) || build.Print(d, 0) != x.printed {
			t.Errorf("P17.1, P17.2: the page %s: %s, %v, %d", x.document, build.Print(d, 0), fails, err)
		}
	}
	l, _ := read(t, "<a><b>x</a>y")
	d, _, _ := build.Page(l)
	if want := doc(root(1, 4), laid("a", 0, 2), laid("b", 1, 3), textNode("x", 2), textNode("y", 0)); !same(d, want) {
		t.Errorf("P17.1: %s, not %s", shape(d), shape(want))
	}
}

// P17.1: which names are void.
func TestVoid(t *testing.T) {
	for _, name := range []string{"br", "hr", "img", "input", "link", "meta"} {
		if !build.Void(name) {
			t.Errorf("P17.1: Void(%q): false", name)
		}
		for _, other := range []string{name + " ", " " + name, name + "x", strings.ToUpper(name), strings.ToUpper(name[:1]) + name[1:], name[1:], name[:len(name)-1], name + "\x00", name + name, "/" + name} {
			if build.Void(other) {
				t.Errorf("P17.1: Void(%q): true", other)
			}
		}
	}
	for _, name := range []string{"", "a", "b", "script", "style", "col", "area", "base", "wbr", "embed", "source", "image", "\xff"} {
		if build.Void(name) {
			t.Errorf("P17.1: Void(%q): true", name)
		}
	}
}

// P17.1: rows of tokens, the page that they make, and its Fails.
func TestPage(t *testing.T) {
	for _, x := range []struct {
		name  string
		l     []api.Token
		want  api.Doc
		fails []api.Fail
	}{
		{"nothing", nil, doc(root()), nil},
		{"a text", tokens(text("x")), doc(root(1), textNode("x", 0)), nil},
		{"texts side by side are a node each", tokens(text("x"), text(""), text("y")), doc(root(1, 2, 3), textNode("x", 0), textNode("", 0), textNode("y", 0)), nil},
		{"a text has no signs", tokens(text("&lt;<b>")), doc(root(1), textNode("&lt;<b>", 0)), nil},
		{"a comment", tokens(comment("-->"), comment("")), doc(root(1, 2), commentNode("-->", 0), commentNode("", 0)), nil},
		{"a doctype", tokens(doctype("html"), text("x"), doctype("")), doc(root(1), textNode("x", 0)), nil},
		{"other kinds", tokens(api.Token{}, api.Token{Kind: 6, Name: "a", Data: "x"}, api.Token{Kind: -1, Name: "a"}, api.Token{Kind: math.MaxInt}, api.Token{Kind: math.MinInt}), doc(root()), nil},
		{"what is not the kind's own plays no part",
			tokens(api.Token{Kind: api.TokenText, Name: "a", Data: "x", Attrs: start("a", "p", "1").Attrs, Closed: true}, api.Token{Kind: api.TokenComment, Name: "a", Data: "y", Attrs: start("a", "p", "1").Attrs}, api.Token{Kind: api.TokenStart, Name: "a", Data: "z"}, api.Token{Kind: api.TokenEnd, Name: "a", Data: "z", Attrs: start("a", "p", "1").Attrs, Closed: true}),
			doc(root(1, 2, 3), textNode("x", 0), commentNode("y", 0), laid("a", 0)), nil},
		{"an element", tokens(start("a"), end("a")), doc(root(1), laid("a", 0)), nil},
		{"an element that stays open", tokens(start("a")), doc(root(1), laid("a", 0)), []api.Fail{{Code: 162, At: 1}}},
		{"two that stay open", tokens(start("a"), start("b"), text("x")), doc(root(1), laid("a", 0, 2), laid("b", 1, 3), textNode("x", 2)), []api.Fail{{Code: 162, At: 3}}},
		{"one in the other", tokens(start("a"), start("b"), end("b"), text("x"), end("a"), text("y")), doc(root(1, 4), laid("a", 0, 2, 3), laid("b", 1), textNode("x", 1), textNode("y", 0)), nil},
		{"one of the same name in it", tokens(start("a"), start("a"), end("a"), text("x"), end("a"), text("y")), doc(root(1, 4), laid("a", 0, 2, 3), laid("a", 1), textNode("x", 1), textNode("y", 0)), nil},
		{"the last one of the name is ended", tokens(start("a"), start("a"), start("b"), end("a"), text("x")), doc(root(1), laid("a", 0, 2, 4), laid("a", 1, 3), laid("b", 2), textNode("x", 1)), []api.Fail{{Code: 162, At: 3}, {Code: 162, At: 5}}},
		{"several behind it are one Fail", tokens(start("a"), start("b"), start("c"), start("d"), end("a"), text("x")), doc(root(1, 5), laid("a", 0, 2), laid("b", 1, 3), laid("c", 2, 4), laid("d", 3), textNode("x", 0)), []api.Fail{{Code: 162, At: 4}}},
		{"crossed", tokens(start("a"), start("b"), end("a"), end("b")), doc(root(1), laid("a", 0, 2), laid("b", 1)), []api.Fail{{Code: 162, At: 2}, {Code: 160, At: 3}}},
		{"an end of nothing", tokens(end("a"), end("a"), text("x"), end("")), doc(root(1), textNode("x", 0)), []api.Fail{{Code: 160, At: 0}, {Code: 160, At: 1}, {Code: 160, At: 3}}},
		{"an end of another name ends nothing", tokens(start("a"), end("b"), end("A"), end(""), text("x"), end("a")), doc(root(1), laid("a", 0, 2), textNode("x", 1)), []api.Fail{{Code: 160, At: 1}, {Code: 160, At: 2}, {Code: 160, At: 3}}},
		{"Closed", tokens(closed("a"), text("x"), end("a")), doc(root(1, 2), laid("a", 0), textNode("x", 0)), []api.Fail{{Code: 160, At: 2}}},
		{"Closed in its like", tokens(start("a"), closed("a"), text("x"), end("a")), doc(root(1), laid("a", 0, 2, 3), laid("a", 1), textNode("x", 1)), nil},
		{"void", tokens(start("br"), text("x"), closed("hr"), end("br")), doc(root(1, 2, 3), laid("br", 0), textNode("x", 0), laid("hr", 0)), []api.Fail{{Code: 160, At: 3}}},
		{"a void name has small letters", tokens(start("BR"), text("x"), end("BR")), doc(root(1), laid("BR", 0, 2), textNode("x", 1)), nil},
	} {
		d, fails, err := build.Page(x.l)
		if err != api.OK || !same(d, x.want) || !slices.Equal(fails, x.fails) {
			t.Errorf("P17.1: %s: %s, %v, %d, not %s, %v", x.name, shape(d), fails, err, shape(x.want), x.fails)
		}
		checkInto(t, dom.New(), 0, x.l, true)
		checkInto(t, page(), 1, x.l, false)
	}
}

// P17.1: attributes are as they are told, in their order.
func TestAttrs(t *testing.T) {
	l := tokens(start("a", "p", "1", "P", "<\">", "", "", "q", ""), withMany("b", 30))
	d, _, err := build.Page(l)
	if err != api.OK || !slices.Equal(d.Nodes[1].Attrs, l[0].Attrs) || !slices.Equal(d.Nodes[2].Attrs, l[1].Attrs) {
		t.Errorf("P17.1: attributes: %s, %d", shape(d), err)
	}
	checkInto(t, dom.New(), 0, l, true)
}

// P17.1: parser is told of elements, and of nothing else.
func TestParser(t *testing.T) {
	l := tokens(start("a"), text("x"), comment("y"), end("a"), start("br"), closed("script"))
	for _, parser := range []bool{false, true} {
		d, fails, err := build.Into(dom.New(), 0, l, parser)
		if err != api.OK || len(fails) != 0 || len(d.Nodes) != 6 {
			t.Fatalf("P17.1: %s, %v, %d", shape(d), fails, err)
		}
		for at, n := range d.Nodes {
			if n.Parser != (parser && n.Kind == api.NodeElement) || n.Started {
				t.Errorf("P17.1: with %v as parser node %d is %+v", parser, at, n)
			}
		}
		checkInto(t, page(), 7, l, parser)
	}
	d, _, _ := build.Page(l)
	if want, _, _ := build.Into(dom.New(), 0, l, true); !same(d, want) {
		t.Errorf("P17.1: Page is not Into of a new document, 0, l, true: %s", shape(d))
	}
}

// P17.1: the node that tokens are laid in is no element that is ended, whatever its name; it may be void, and stand nowhere.
func TestFirst(t *testing.T) {
	for _, x := range []struct {
		n     int
		l     []api.Token
		kids  []int
		fails []api.Fail
	}{
		{0, tokens(text("k")), []int{1, 7, 14}, nil},
		{1, tokens(end("a"), text("k")), []int{2, 3, 4, 5, 14}, []api.Fail{{Code: 160, At: 0}}},
		{1, tokens(start("a"), end("a"), end("a"), text("k")), []int{2, 3, 4, 5, 14, 15}, []api.Fail{{Code: 160, At: 2}}},
		{2, tokens(end("a"), end("b"), text("k")), []int{14}, []api.Fail{{Code: 160, At: 0}, {Code: 160, At: 1}}},
		{5, tokens(text("k"), start("br"), text("k")), []int{6, 14, 15, 16}, nil},
		{7, tokens(text("k")), []int{8, 9, 14}, nil},
		{11, tokens(text("k"), end("a")), []int{12, 14}, []api.Fail{{Code: 160, At: 1}}},
		{11, nil, []int{12}, nil},
	} {
		d, fails, err := build.Into(page(), x.n, x.l, true)
		if err != api.OK || !slices.Equal(fails, x.fails) || !slices.Equal(d.Nodes[x.n].Kids, x.kids) {
			t.Errorf("P17.1: Into %d of %s: %s, %v, %d", x.n, token.Print(x.l), shape(d), fails, err)
		}
		checkInto(t, page(), x.n, x.l, true)
	}
}

// P17.1: Check's error, then ErrDomNode, then the first error of a node that is made; nothing is laid then.
func TestErrors(t *testing.T) {
	bad := tokens(start(""))
	for _, d := range wrong() {
		for _, n := range numbers {
			if out, fails, err := build.Into(d, n, bad, true); err != api.ErrDomForm || out.Nodes != nil || fails != nil {
				t.Errorf("P17.1: Into of %s, %d: %s, %v, %d", shape(d), n, shape(out), fails, err)
			}
			checkInto(t, d, n, nil, false)
			checkPrint(t, d, n)
		}
	}
	for _, d := range []api.Doc{many(301), deep(301), {Nodes: make([]api.Node, 1000)}} {
		if out, fails, err := build.Into(d, -1, bad, true); err != api.ErrLimit || out.Nodes != nil || fails != nil {
			t.Errorf("P17.1: Into of %d nodes: %s, %v, %d", len(d.Nodes), shape(out), fails, err)
		}
		if s := build.Print(d, 0); s != "" {
			t.Errorf("P17.2: Print of %d nodes: %s", len(d.Nodes), s)
		}
	}
	for _, n := range numbers {
		want := api.ErrDomNode
		if slices.Contains([]int{0, 1, 2, 5, 7, 9, 11}, n) {
			want = api.ErrArg
		}
		if out, fails, err := build.Into(page(), n, bad, true); err != want || out.Nodes != nil || fails != nil {
			t.Errorf("P17.1: Into %d: %s, %v, %d, not %d", n, shape(out), fails, err, want)
		}
		checkInto(t, page(), n, nil, true)
	}
}

// P17.1: what dom.Make refuses: which error is the first.
func TestRefused(t *testing.T) {
	full := times(text("x"), 299)
	for _, x := range []struct {
		name string
		l    []api.Token
		err  api.Errno
	}{
		{"no name", tokens(end("a"), text("x"), start("")), api.ErrArg},
		{"no name, Closed", tokens(closed("")), api.ErrArg},
		{"30 attributes", tokens(withMany("a", 30)), api.OK},
		{"31 attributes", tokens(text("x"), withMany("a", 31)), api.ErrArg},
		{"an attribute twice", tokens(start("a", "p", "1", "q", "2", "p", "1")), api.ErrArg},
		{"of another size twice", tokens(start("a", "p", "1", "P", "1")), api.OK},
		{"an end tag may have them", tokens(api.Token{Kind: api.TokenEnd, Attrs: withMany("a", 31).Attrs}), api.OK},
		{"a text may have them", tokens(api.Token{Kind: api.TokenText, Attrs: withMany("a", 31).Attrs}), api.OK},
		{"300 nodes", full, api.OK},
		{"301 nodes", append(full[:299:299], comment("x")), api.ErrLimit},
		{"what lays nothing has room", append(full[:299:299], end("a"), doctype("x"), api.Token{}), api.OK},
		{"no room and no name", append(full[:299:299], start("")), api.ErrArg},
		{"no room, then no name", append(full[:299:299], text("x"), start("")), api.ErrLimit},
		{"no name, then no room", append(tokens(start("")), append(full[:299:299], text("x"))...), api.ErrArg},
	} {
		d, fails, err := build.Page(x.l)
		if err != x.err || err != api.OK && (d.Nodes != nil || fails != nil) {
			t.Errorf("P17.1: %s: %s, %v, %d, not %d", x.name, shape(d), fails, err, x.err)
		}
		checkInto(t, dom.New(), 0, x.l, true)
		checkInto(t, page(), 1, x.l, true)
	}
	for _, d := range []api.Doc{many(299), many(300), deep(299), deep(300)} {
		for _, l := range [][]api.Token{nil, tokens(text("x")), tokens(text("x"), end("a")), tokens(text("x"), text("x")), tokens(end("a")), tokens(start(""))} {
			checkInto(t, d, 0, l, true)
			checkInto(t, d, len(d.Nodes)-1, l, false)
		}
		checkPrint(t, d, 0)
		checkPrint(t, d, 298)
	}
}

// P17.1: of open elements there are at most 30, the first one among them.
func TestDeep(t *testing.T) {
	opened := times(start("a"), 29)
	for _, x := range []struct {
		name   string
		behind []api.Token
		parent int // of the last node
		fails  []api.Fail
	}{
		{"30 are open", tokens(text("x")), 29, []api.Fail{{Code: 162, At: 30}}},
		{"one more is not open", tokens(start("a"), text("x")), 29, []api.Fail{{Code: 161, At: 29}, {Code: 162, At: 31}}},
		{"nor is another one", tokens(start("a"), start("b"), text("x")), 29, []api.Fail{{Code: 161, At: 29}, {Code: 161, At: 30}, {Code: 162, At: 32}}},
		{"its end tag ends another one", tokens(start("a"), end("a"), text("x")), 28, []api.Fail{{Code: 161, At: 29}, {Code: 162, At: 32}}},
		{"or none", tokens(start("b"), end("b"), text("x")), 29, []api.Fail{{Code: 161, At: 29}, {Code: 160, At: 30}, {Code: 162, At: 32}}},
		{"Closed is no Fail", tokens(closed("a"), text("x")), 29, []api.Fail{{Code: 162, At: 31}}},
		{"nor is a void one", tokens(start("br"), text("x")), 29, []api.Fail{{Code: 162, At: 31}}},
		{"there is room again", tokens(end("a"), start("b"), text("x")), 30, []api.Fail{{Code: 162, At: 32}}},
		{"for one", tokens(end("a"), start("b"), start("c"), text("x")), 30, []api.Fail{{Code: 161, At: 31}, {Code: 162, At: 33}}},
		{"all are ended", append(times(end("a"), 29), text("x")), 0, nil},
		{"and one that is not there", append(times(end("a"), 30), text("x")), 0, []api.Fail{{Code: 160, At: 58}}},
	} {
		l := append(slices.Clip(opened), x.behind...)
		for n, d := range []api.Doc{0: dom.New(), 40: deep(41)} {
			if len(d.Nodes) == 0 {
				continue
			}
			out, fails, err := build.Into(d, n, l, true)
			if err != api.OK || !slices.Equal(fails, x.fails) || out.Nodes[len(out.Nodes)-1].Parent != x.parent+n {
				t.Errorf("P17.1: %s: %s, %v, %d", x.name, shape(out), fails, err)
			}
			checkInto(t, d, n, l, true)
		}
	}
	checkInto(t, dom.New(), 0, append(times(start("a"), 200), times(end("a"), 200)...), true)
	checkInto(t, dom.New(), 0, append(times(start("a"), 29), times(end("b"), 3000)...), true)
}

// pieces are tokens that rows are made of.
func pieces() []api.Token {
	return tokens(start("a"), start("b", "p", "<"), start("br"), closed("a"), end("a"), end("b"), end("br"), text("x<"), comment("y"), doctype("z"))
}

// P17.1, P17.3: all short rows of tokens.
func TestShortRows(t *testing.T) {
	for count := range 6 {
		eachRow(pieces(), count, func(l []api.Token) {
			if count < 4 {
				for _, n := range []int{1, 5, 7, 11} {
					checkInto(t, page(), n, l, count == 2)
				}
			}
			checkInto(t, dom.New(), 0, l, true)
		})
	}
}

// P17.1, P17.2, P17.3: long rows of tokens, laid one behind the other in a document; which ones, is always the same.
func TestLongRows(t *testing.T) {
	r := rand.New(rand.NewPCG(17, 1))
	odd := tokens(start(""), start("a", "p", "1", "p", "2"), withMany("c", 31), api.Token{Kind: 9}, end(""))
	for range 40 {
		d := page()
		for range 12 {
			l := make([]api.Token, r.IntN(60))
			deeper := r.IntN(8)
			for at := range l {
				l[at] = pieces()[r.IntN(len(pieces()))]
				if r.IntN(10) < deeper {
					l[at] = start([]string{"a", "b", "c", "script", "textarea"}[r.IntN(5)])
				}
				if r.IntN(500) == 0 {
					l[at] = odd[r.IntN(len(odd))]
				}
			}
			n := r.IntN(len(d.Nodes)+2) - 1
			checkInto(t, d, n, l, r.IntN(2) == 0)
			if out, _, err := build.Into(d, n, l, true); err == api.OK {
				d = out
			}
			checkPrint(t, d, n)
			checkPrint(t, d, 0)
		}
	}
}

// P17.2: what is printed of each node of a page.
func TestPrint(t *testing.T) {
	a := `<a p="&lt;&quot;1&quot;&gt;" q=""><b p="2"></b>x<!--y--><br></a>`
	script := "<script><<c>&gt;</c></script>"
	for n, want := range []string{
		a + script, a, `<b p="2"></b>`, "x", "<!--y-->", "<br>", "z", script, "<", "<c>&gt;</c>", "&gt;", "<a>v</a>", "v", "u&amp;",
	} {
		if s := build.Print(page(), n); s != want {
			t.Errorf("P17.2: Print(%d): %s, not %s", n, s, want)
		}
	}
	for _, n := range numbers {
		checkPrint(t, page(), n)
		checkPrint(t, dom.New(), n)
	}
}

// P17.2: texts in elements of several names, that stand and do not stand there.
func TestPrintText(t *testing.T) {
	const data = `&<>"'x`
	const encoded = "&amp;&lt;&gt;&quot;&apos;x"
	for name, want := range map[string]string{
		"script": data, "style": data, "textarea": encoded, "title": encoded, "SCRIPT": encoded, "scripts": encoded, "a": encoded, "p": encoded,
	} {
		d := doc(root(1), element(name, 0, 2, 3, 4), textNode(data, 1), element("i", 1, 5), textNode(data, 1), textNode(data, 3), textNode(data, -1))
		if s := build.Print(d, 1); s != "<"+name+">"+want+"<i>"+encoded+"</i>"+want+"</"+name+">" {
			t.Errorf("P17.2: Print of %s: %s", name, s)
		}
		if s := build.Print(d, 2); s != want {
			t.Errorf("P17.2: Print of a text in %s: %s", name, s)
		}
		if s := build.Print(d, 6); s != encoded {
			t.Errorf("P17.2: Print of a text that stands nowhere: %s", s)
		}
		for n := range d.Nodes {
			checkPrint(t, d, n)
		}
	}
	d := doc(root(1), textNode(data, 0))
	if s := build.Print(d, 1); s != encoded || s != build.Print(d, 0) {
		t.Errorf("P17.2: Print of a text in the root: %s", s)
	}
}

// P17.2: of a void element's kids there is nothing, but of one of them there is; names and comments are as they are.
func TestPrintElement(t *testing.T) {
	for _, name := range []string{"br", "hr", "img", "input", "link", "meta"} {
		d := doc(root(1, 3), element(name, 0, 2), element("b", 1), textNode("x", 0))
		if s := build.Print(d, 0); s != "<"+name+">x" {
			t.Errorf("P17.2: Print of %s with a kid: %s", name, s)
		}
		if s := build.Print(d, 2); s != "<b></b>" {
			t.Errorf("P17.2: Print of a kid of %s: %s", name, s)
		}
	}
	odd := element("\xff> BR", 0, 2)
	odd.Attrs = []api.Attr{{Name: "=\">", Value: "'\xff"}, {}}
	odd.Started, odd.Parser = true, true
	d := doc(root(1), odd, commentNode("-->&<", 1))
	if s := build.Print(d, 0); s != "<\xff> BR =\">=\"&apos;\xff\" =\"\"><!---->&<--></\xff> BR>" {
		t.Errorf("P17.2: Print of odd names: %q", s)
	}
	if s := build.Print(dom.New(), 0); s != "" {
		t.Errorf("P17.2: Print of a new document: %q", s)
	}
}

// checkAgain holds a page of a document without any Fail, printed and read, against itself, and answers whether there is none.
func checkAgain(t *testing.T, s string) bool {
	t.Helper()
	l, whole := read(t, s)
	d, fails, err := build.Page(l)
	doctypes := slices.ContainsFunc(l, func(t api.Token) bool { return t.Kind == api.TokenDoctype })
	if !whole || len(fails) > 0 || doctypes || err != api.OK {
		return false
	}
	printed := build.Print(d, 0)
	again, whole := read(t, printed)
	e, fails, err := build.Page(again)
	if !whole || len(fails) > 0 || err != api.OK || !same(d, e) || build.Print(e, 0) != printed {
		t.Fatalf("P17.3: the page %q is printed as %q, and that as %q", s, printed, build.Print(e, 0))
	}
	return true
}

// P17.3: a page that a document without any Fail makes is, printed and read, built as the same.
func TestAgain(t *testing.T) {
	for _, s := range []string{
		"", "x", "a&amp;b &lt;", "\"'", "<a>x</a>", "<A P=1 q='&quot;'>x</A >", "<br>x<br/>", "<i/>x", "<script>a<b&amp;</SCRIPT >", "<script src=x></script>",
		"<style>&lt;</style>", "<textarea>&lt;/textarea&gt;</textarea>", "<title><b></title>", "<!-- <b> -->", "<!---->", "<p><!--x-->y</p>",
		"<a \"=1 ==2 '>x</a>", "<a b=c/d>x</a>", "<a\"b>x</a\"b>", "<a<b>x</a<b>", "&#97;&nbsp;", "<a x=&#34;></a>", "<b><b><b>x</b></b></b>", "<a/b/c/>",
	} {
		if !checkAgain(t, s) {
			t.Errorf("P17.3: %q has a Fail", s)
		}
	}
	parts := []string{"<a>", "</a>", "<b x='&lt;\">'/>", "<br>", "<script>", "</script>", "<title>", "</title>", "<!--", "-->", "&amp;", "x", "\"", "> "}
	whole := 0
	for count := 1; count <= 4; count++ {
		eachText(parts, count, func(s string) {
			if checkAgain(t, s) {
				whole++
			}
		})
	}
	if whole < 1000 {
		t.Errorf("P17.3: of %d documents only was there no Fail", whole)
	}
}

// eachText calls yield with each text that is made of that many of the parts.
func eachText(parts []string, count int, yield func(string)) {
	if count == 0 {
		yield("")
		return
	}
	eachText(parts, count-1, func(begin string) {
		for _, part := range parts {
			yield(begin + part)
		}
	})
}

// T2: text that is encoded makes no element and no attribute, as a text and as an attribute's value.
func TestEncoded(t *testing.T) {
	eachText([]string{"<", ">", "/", "\"", "'", "&", ";", "lt", " ", "=", "script", "<!--", "</a>", "#60"}, 4, func(s string) {
		code := entity.Encode(s)
		l, _ := read(t, "<a x=\""+code+"\" y='"+code+"'>"+code+"</a>")
		d, fails, err := build.Page(l)
		a := laid("a", 0, 2)
		a.Attrs = []api.Attr{{Name: "x", Value: s}, {Name: "y", Value: s}}
		if want := doc(root(1), a, textNode(s, 1)); err != api.OK || len(fails) > 0 || !same(d, want) {
			t.Fatalf("T2: of %q as text there is %s, %v, %d", s, shape(d), fails, err)
		}
	})
}

// T3: in which parts a document comes plays no part.
func TestParts(t *testing.T) {
	const s = "<a x='&lt;\xc3\xa4'><script>a<b</script><br></a>\xff&amp;"
	l, _, _ := feed.Whole([]byte(s))
	want, _, _ := build.Page(l)
	for at := range len(s) {
		f := feed.New()
		f.Feed([]byte(s[:at]))
		f.Feed([]byte(s[at:]))
		l, _, _ := f.End()
		if d, fails, err := build.Page(l); err != api.OK || len(fails) > 0 || !same(d, want) {
			t.Errorf("T3: parted at %d: %s, %v, %d", at, shape(d), fails, err)
		}
	}
}
