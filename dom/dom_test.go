package dom_test

import (
	"math"
	"math/rand/v2"
	"slices"
	"strconv"
	"strings"
	"testing"

	"pounce/api"
	"pounce/dom"
)

// kids answers these numbers as a list.
func kids(l ...int) []int { return l }

// root answers a root with these below it.
func root(kids ...int) api.Node {
	return api.Node{Kind: api.NodeRoot, Parent: -1, Kids: kids}
}

// element answers an element that stands there, with these below it.
func element(name string, parent int, kids ...int) api.Node {
	return api.Node{Kind: api.NodeElement, Name: name, Parent: parent, Kids: kids}
}

// text answers a text that stands there.
func text(data string, parent int) api.Node {
	return api.Node{Kind: api.NodeText, Data: data, Parent: parent}
}

// comment answers a comment that stands there.
func comment(data string, parent int) api.Node {
	return api.Node{Kind: api.NodeComment, Data: data, Parent: parent}
}

// with answers an element with these attributes, told as names and values.
func with(n api.Node, attrs ...string) api.Node {
	for at := 0; at < len(attrs); at += 2 {
		n.Attrs = append(n.Attrs, api.Attr{Name: attrs[at], Value: attrs[at+1]})
	}
	return n
}

// withMany answers an element with that many attributes, by the names 0, 1, and so on.
func withMany(n api.Node, count int) api.Node {
	for at := range count {
		n = with(n, strconv.Itoa(at), "v")
	}
	return n
}

// doc answers a document of these nodes.
func doc(l ...api.Node) api.Doc { return api.Doc{Nodes: l} }

// many answers a document of that many nodes, all of them right below the root.
func many(count int) api.Doc {
	d := doc(root())
	for at := 1; at < count; at++ {
		d.Nodes[0].Kids = append(d.Nodes[0].Kids, at)
		d.Nodes = append(d.Nodes, element("e", 0))
	}
	return d
}

// deep answers a document of that many nodes, each of which is below the one ahead of it.
func deep(count int) api.Doc {
	d := doc(root())
	for at := 1; at < count; at++ {
		d.Nodes[at-1].Kids = kids(at)
		d.Nodes = append(d.Nodes, element("e", at-1))
	}
	return d
}

// page is a right document: a (b, the text x, the comment y, c (the text z)), the text w; and, nowhere, d (the text v) and the text u.
func page() api.Doc {
	return doc(
		root(1, 7),
		with(element("a", 0, 2, 3, 4, 5), "p", "1", "q", ""),
		with(element("b", 1), "p", "2"),
		text("x", 1),
		comment("y", 1),
		element("c", 1, 6),
		text("z", 5),
		text("w", 0),
		with(element("d", -1, 9), "", "3", "P", "4"),
		text("v", 8),
		text("u", -1),
	)
}

// numbers are those of nodes that are there in some documents, and of nodes that are in none.
var numbers = []int{math.MinInt, -301, -2, -1, 0, 1, 2, 3, 4, 5, 6, 7, 8, 9, 10, 11, 12, 299, 300, 301, math.MaxInt}

// scribble writes over all of a document's memory, also behind its lists' ends.
func scribble(d api.Doc) {
	for at := range d.Nodes {
		scribbleLists(d.Nodes[at], 0, 0)
	}
	for at := range d.Nodes[:cap(d.Nodes)] {
		d.Nodes[:cap(d.Nodes)][at] = api.Node{Kind: 77, Name: "?"}
	}
}

// scribbleLists writes over a node's lists, from these places on.
func scribbleLists(n api.Node, attrs, kids int) {
	for at := attrs; at < cap(n.Attrs); at++ {
		n.Attrs[:cap(n.Attrs)][at] = api.Attr{Name: "?", Value: "?"}
	}
	for at := kids; at < cap(n.Kids); at++ {
		n.Kids[:cap(n.Kids)][at] = 777
	}
}

// checkNew tells whether what came out of d is right, and shares no memory with d, nor its lists with each other.
func checkNew(t *testing.T, call string, d, out api.Doc) {
	t.Helper()
	if err := dom.Check(out); err != api.OK || !modelRight(out.Nodes) {
		t.Fatalf("P16.6: what comes out of %s is not right: %d, %+v", call, err, out)
	}
	was, came := copyOf(d), copyOf(out)
	for _, n := range out.Nodes {
		scribbleLists(n, len(n.Attrs), len(n.Kids))
	}
	if !same(out, came) {
		t.Fatalf("R2: lists of what comes out of %s share memory", call)
	}
	scribble(out)
	if !same(d, was) {
		t.Fatalf("R2: what comes out of %s shares memory with what was handed in", call)
	}
}

// checkChange asks for a change of d twice, and holds it against what is wanted of it.
func checkChange(t *testing.T, call string, d, want api.Doc, wantErr api.Errno, change func() (api.Doc, api.Errno)) {
	t.Helper()
	was := copyOf(d)
	out, err := change()
	again, _ := change()
	if err != wantErr || !same(out, want) {
		t.Fatalf("%s of %+v: %+v, %d, not %+v, %d", call, was, out, err, want, wantErr)
	}
	if !same(d, was) {
		t.Fatalf("R2: %s changes what is handed in: %+v, not %+v", call, d, was)
	}
	if err != api.OK {
		return
	}
	checkNew(t, call, d, out)
	if !same(again, want) {
		t.Fatalf("R2: %s: what came out later has the memory of what came out: %+v", call, again)
	}
	checkNew(t, call, d, again)
}

// checkStays holds all of a changed document that no change may touch against what it was.
func checkStays(t *testing.T, call string, d, out api.Doc) {
	t.Helper()
	for at, n := range d.Nodes {
		o := out.Nodes[at]
		if o.Kind != n.Kind || o.Name != n.Name || o.Data != n.Data || !slices.Equal(o.Attrs, n.Attrs) || o.Parser != n.Parser || o.Started != n.Started {
			t.Fatalf("P16.6: %s changes node %d: %+v, not %+v", call, at, o, n)
		}
	}
}

// checkMake holds Make against the model.
func checkMake(t *testing.T, d api.Doc, n api.Node) {
	t.Helper()
	want, wantPlace, wantErr := modelMake(d, n)
	given := copyOf(doc(n))
	checkChange(t, "P16.2: Make", d, want, wantErr, func() (api.Doc, api.Errno) {
		out, place, err := dom.Make(d, n)
		if place != wantPlace {
			t.Fatalf("P16.2: Make of %+v in %+v: number %d, not %d", n, d, place, wantPlace)
		}
		return out, err
	})
	if out, place, err := dom.Make(d, n); err == api.OK {
		checkStays(t, "Make", d, out)
		scribble(doc(out.Nodes[place]))
	}
	if !same(doc(n), given) {
		t.Fatalf("R2: Make changes the node that is handed in, or shares its memory: %+v, not %+v", n, given)
	}
}

// checkPut holds Put against the model.
func checkPut(t *testing.T, d api.Doc, parent, n int) {
	t.Helper()
	want, wantErr := modelPut(d, parent, n)
	call := "P16.3: Put(" + strconv.Itoa(parent) + ", " + strconv.Itoa(n) + ")"
	checkChange(t, call, d, want, wantErr, func() (api.Doc, api.Errno) { return dom.Put(d, parent, n) })
	out, err := dom.Put(d, parent, n)
	if err != api.OK {
		return
	}
	checkStays(t, call, d, out)
	for at, o := range out.Nodes {
		times := 0
		for _, kid := range o.Kids {
			if kid == n {
				times++
			}
		}
		if at == parent && (times != 1 || o.Kids[len(o.Kids)-1] != n) || at != parent && times != 0 {
			t.Fatalf("P16.6: %s: node %d has %v", call, at, o.Kids)
		}
	}
	if dom.In(out, n) != dom.In(d, parent) || !slices.Equal(dom.Below(out, n), dom.Below(d, n)) || !slices.Contains(dom.Below(out, parent), n) {
		t.Fatalf("P16.6: %s: In %v, Below %v", call, dom.In(out, n), dom.Below(out, n))
	}
}

// checkCut holds Cut against the model.
func checkCut(t *testing.T, d api.Doc, n int) {
	t.Helper()
	want, wantErr := modelCut(d, n)
	call := "P16.3: Cut(" + strconv.Itoa(n) + ")"
	checkChange(t, call, d, want, wantErr, func() (api.Doc, api.Errno) { return dom.Cut(d, n) })
	out, err := dom.Cut(d, n)
	if err != api.OK {
		return
	}
	checkStays(t, call, d, out)
	if !slices.Equal(dom.Below(out, n), dom.Below(d, n)) {
		t.Fatalf("P16.6: %s: Below %v", call, dom.Below(out, n))
	}
	for _, at := range dom.Below(out, n) {
		if dom.In(out, at) {
			t.Fatalf("P16.6: %s: node %d is in", call, at)
		}
	}
}

// checkSet holds Set against the model.
func checkSet(t *testing.T, d api.Doc, n int, name, value string) {
	t.Helper()
	want, wantErr := modelSet(d, n, name, value)
	call := "P16.4: Set(" + strconv.Itoa(n) + ", " + name + ", " + value + ")"
	checkChange(t, call, d, want, wantErr, func() (api.Doc, api.Errno) { return dom.Set(d, n, name, value) })
	out, err := dom.Set(d, n, name, value)
	if err != api.OK {
		return
	}
	if v, ok := dom.Attr(out, n, name); !ok || v != value {
		t.Fatalf("P16.4: %s: the attribute is %q, %v", call, v, ok)
	}
	out.Nodes[n].Attrs = slices.Clone(d.Nodes[n].Attrs)
	if !same(out, d) {
		t.Fatalf("P16.6: %s changes something else: %+v, not %+v", call, out, d)
	}
}

// checkTold holds what is told of a document against the model.
func checkTold(t *testing.T, d api.Doc, n int) {
	t.Helper()
	was := copyOf(d)
	for range 2 {
		below := dom.Below(d, n)
		if want := modelBelow(d, n); !slices.Equal(below, want) {
			t.Fatalf("P16.5: Below(%d) of %+v: %v, not %v", n, d, below, want)
		}
		for at := range below[:cap(below)] {
			below[:cap(below)][at] = 777
		}
	}
	if s, want := dom.Text(d, n), modelText(d, n); s != want {
		t.Fatalf("P16.5: Text(%d) of %+v: %q, not %q", n, d, s, want)
	}
	if in, want := dom.In(d, n), modelIn(d, n); in != want {
		t.Fatalf("P16.5: In(%d) of %+v: %v, not %v", n, d, in, want)
	}
	for _, name := range []string{"", "p", "P", "q", "0", "29", "30"} {
		value, ok := dom.Attr(d, n, name)
		if want, wantOk := modelAttr(d, n, name); value != want || ok != wantOk {
			t.Fatalf("P16.4: Attr(%d, %q) of %+v: %q, %v, not %q, %v", n, name, d, value, ok, want, wantOk)
		}
	}
	if !same(d, was) {
		t.Fatalf("R2: what is told of a document changes it: %+v, not %+v", d, was)
	}
}

// checkAll holds all calls on a document against the model.
func checkAll(t *testing.T, d api.Doc) {
	t.Helper()
	if err, want := dom.Check(d), modelCheck(d); err != want {
		t.Fatalf("P16.1: Check(%+v): %d, not %d", d, err, want)
	}
	for _, n := range nodes {
		checkMake(t, d, n.node)
	}
	for _, n := range numbers {
		checkTold(t, d, n)
		checkCut(t, d, n)
		for _, name := range []string{"", "p", "P", "new", "0", "29", "30"} {
			checkSet(t, d, n, name, "value")
		}
		for _, parent := range numbers {
			checkPut(t, d, parent, n)
		}
	}
}

// nodes are nodes that stand nowhere and have no kids, and whether they may be.
var nodes = []struct {
	node  api.Node
	mayBe bool
}{
	{element("b", -1), true},
	{element("\xff \x00", -1), true}, // a name may have any bytes
	{element("", -1), false},
	{api.Node{Kind: api.NodeElement, Name: "b", Data: "x", Parent: -1}, false},
	{api.Node{Kind: api.NodeElement, Name: "b", Parent: -1, Parser: true, Started: true}, true},
	{with(element("b", -1), "p", "1", "q", "1", "P", "1", "", "1"), true},
	{with(element("b", -1), "p", "1", "p", "1"), false},
	{with(element("b", -1), "p", "1", "q", "2", "r", "3", "p", "4"), false},
	{with(element("b", -1), "", "1", "q", "2", "", "3"), false},
	{withMany(element("b", -1), 30), true},
	{withMany(element("b", -1), 31), false},
	{withMany(element("b", -1), 1000), false},
	{with(withMany(element("b", -1), 29), "28", ""), false},
	{text("x", -1), true},
	{text("", -1), true},
	{text("\xff\x00<", -1), true},
	{api.Node{Kind: api.NodeText, Name: "b", Data: "x", Parent: -1}, false},
	{with(text("x", -1), "p", "1"), false},
	{api.Node{Kind: api.NodeText, Data: "x", Parent: -1, Parser: true}, false},
	{api.Node{Kind: api.NodeText, Data: "x", Parent: -1, Started: true}, false},
	{comment("x", -1), true},
	{comment("", -1), true},
	{comment("-->", -1), true},
	{api.Node{Kind: api.NodeComment, Name: "b", Data: "x", Parent: -1}, false},
	{with(comment("x", -1), "p", "1"), false},
	{api.Node{Kind: api.NodeComment, Data: "x", Parent: -1, Parser: true}, false},
	{api.Node{Kind: api.NodeComment, Data: "x", Parent: -1, Started: true}, false},
	{api.Node{Parent: -1}, false},
	{api.Node{Kind: 5, Name: "b", Parent: -1}, false},
	{api.Node{Kind: 5, Data: "x", Parent: -1}, false},
	{api.Node{Kind: -1, Parent: -1}, false},
	{api.Node{Kind: math.MaxInt, Parent: -1}, false},
}

// P16.1 to P16.6: the chapter's examples.
func TestExamples(t *testing.T) {
	d := dom.New()
	d, b, err := dom.Make(d, element("b", -1))
	if b != 1 || err != api.OK {
		t.Errorf("P16.2: Make of an element: %d, %d", b, err)
	}
	d, x, err := dom.Make(d, text("x", -1))
	if x != 2 || err != api.OK {
		t.Errorf("P16.2: Make of a text: %d, %d", x, err)
	}
	d, err = dom.Put(d, 0, 1)
	if err != api.OK {
		t.Errorf("P16.3: Put(0, 1): %d", err)
	}
	d, err = dom.Put(d, 1, 2)
	if err != api.OK {
		t.Errorf("P16.3: Put(1, 2): %d", err)
	}
	if below := dom.Below(d, 0); !slices.Equal(below, kids(0, 1, 2)) {
		t.Errorf("P16.5: Below(0): %v", below)
	}
	if s := dom.Text(d, 0); s != "x" || !dom.In(d, 2) {
		t.Errorf("P16.5: Text(0): %q, In(2): %v", s, dom.In(d, 2))
	}
	if none, err := dom.Put(d, 2, 1); err != api.ErrDomNode || none.Nodes != nil {
		t.Errorf("P16.3: Put(2, 1): %+v, %d", none, err)
	}
	if none, err := dom.Put(d, 1, 1); err != api.ErrDomCircle || none.Nodes != nil {
		t.Errorf("P16.3: Put(1, 1): %+v, %d", none, err)
	}
	d, err = dom.Cut(d, 1)
	if err != api.OK || dom.In(d, 2) || dom.In(d, 1) || !dom.In(d, 0) {
		t.Errorf("P16.3: Cut(1): %d, %+v", err, d)
	}
	if want := doc(root(), element("b", -1, 2), text("x", 1)); !same(d, want) {
		t.Errorf("P16.3: Cut(1): %+v, not %+v", d, want)
	}
}

// P16.1: a new document is the same each time, and each one is its own.
func TestNew(t *testing.T) {
	for range 3 {
		d := dom.New()
		if !same(d, doc(root())) || dom.Check(d) != api.OK {
			t.Errorf("P16.1: New: %+v", d)
		}
		checkNew(t, "New", doc(), d)
	}
}

// P16.1, P16.2: which nodes may be, as one of a document, and to be made.
func TestMayBe(t *testing.T) {
	for _, x := range nodes {
		check, made := api.OK, api.OK
		if !x.mayBe {
			check, made = api.ErrDomForm, api.ErrArg
		}
		if err := dom.Check(doc(root(), x.node)); err != check {
			t.Errorf("P16.1: Check with %+v: %d, not %d", x.node, err, check)
		}
		if out, n, err := dom.Make(dom.New(), x.node); err != made || err == api.OK && (n != 1 || !same(out, doc(root(), x.node))) || err != api.OK && (n != 0 || out.Nodes != nil) {
			t.Errorf("P16.2: Make of %+v: %+v, %d, %d", x.node, out, n, err)
		}
		if modelMayBe(x.node) != x.mayBe {
			t.Errorf("the model tells %v of %+v", !x.mayBe, x.node)
		}
		placed := x.node
		placed.Parent = 0
		if err := dom.Check(doc(root(1), placed)); err != check {
			t.Errorf("P16.1: Check with %+v in the root: %d, not %d", x.node, err, check)
		}
	}
}

// P16.1: documents that are right.
func TestRight(t *testing.T) {
	for _, d := range []api.Doc{
		dom.New(), page(), many(2), many(299), many(300), deep(2), deep(299), deep(300),
		doc(root(), element("a", -1), element("b", -1)),
		doc(root(2, 1), element("a", 0), element("b", 0)),
		doc(root(2), element("a", 2), element("b", 0, 1)), // a node may be below one of a greater number
		doc(root(), element("a", 3), element("b", 3), element("c", -1, 2, 1)),
		doc(root(1), withMany(element("a", 0), 30)),
		{Nodes: []api.Node{{Kind: api.NodeRoot, Parent: -1, Kids: []int{}, Attrs: []api.Attr{}}}},
	} {
		if err := dom.Check(d); err != api.OK {
			t.Errorf("P16.1: Check(%+v): %d", d, err)
		}
	}
}

// P16.1: documents that are not right, with one thing that is wrong in each.
func TestWrong(t *testing.T) {
	for _, d := range wrong() {
		if err := dom.Check(d); err != api.ErrDomForm || modelRight(d.Nodes) {
			t.Errorf("P16.1: Check(%+v): %d", d, err)
		}
	}
	for _, d := range over() {
		if err := dom.Check(d); err != api.ErrLimit {
			t.Errorf("P16.1: Check of %d nodes: %d", len(d.Nodes), err)
		}
	}
}

// wrong answers documents that are not right.
func wrong() []api.Doc {
	long := deep(300)
	long.Nodes[0].Kids, long.Nodes[1].Parent, long.Nodes[299].Kids = nil, 299, kids(1)
	return []api.Doc{
		{},
		{Nodes: []api.Node{}},
		doc(element("a", -1)),
		doc(text("x", -1)),
		doc(api.Node{Parent: -1}),
		doc(element("a", -1, 1), root()),
		doc(root(), root()),
		doc(root(1), api.Node{Kind: api.NodeRoot}),
		doc(api.Node{Kind: api.NodeRoot, Parent: -2}),
		doc(api.Node{Kind: api.NodeRoot}),
		doc(root(0)),
		doc(api.Node{Kind: api.NodeRoot, Kids: kids(0)}),
		doc(api.Node{Kind: api.NodeRoot, Parent: 1}, element("a", -1, 0)),
		doc(api.Node{Kind: api.NodeRoot, Parent: 1, Kids: kids(1)}, element("a", 0, 0)),
		doc(api.Node{Kind: api.NodeRoot, Parent: -1, Name: "a"}),
		doc(api.Node{Kind: api.NodeRoot, Parent: -1, Data: "a"}),
		doc(api.Node{Kind: api.NodeRoot, Parent: -1, Parser: true}),
		doc(api.Node{Kind: api.NodeRoot, Parent: -1, Started: true}),
		doc(with(root(), "p", "")),
		doc(root(), element("a", 0)),                         // its Parent has it not
		doc(root(1), element("a", -1)),                       // one that is not its Parent has it
		doc(root(1, 1), element("a", 0)),                     // twice
		doc(root(1, 2, 1), element("a", 0), element("b", 0)), // twice
		doc(root(1), element("a", 0), element("b", 0)),       // the other one is there
		doc(root(1, 2), element("a", 0), element("b", 1)),    // in another's place
		doc(root(1), element("a", 0, 2), element("b", 0)),    // in another's place
		doc(root(1, 2), element("a", 0, 2), element("b", 0)), // in both
		doc(root(1, 2), element("a", 0, 2), element("b", 1)), // in both
		doc(root(), element("a", -2)),                        // no node
		doc(root(), element("a", 2)),                         // no node
		doc(root(), element("a", math.MinInt)),               // no node
		doc(root(), element("a", math.MaxInt)),               // no node
		doc(root(1), element("a", 300)),                      // no node
		doc(root(-1)),                                        // no node
		doc(root(1)),                                         // no node
		doc(root(1, 2), element("a", 0)),                     // no node
		doc(root(math.MinInt)),                               // no node
		doc(root(math.MaxInt)),                               // no node
		doc(root(-1), element("a", -1)),                      // -1 is nobody's kid
		doc(root(1), text("x", 0), text("y", 1)),             // below a text
		doc(root(1), text("x", 0), element("b", 1)),          // below a text
		doc(root(1), element("a", 0, 2), text("y", 1), kidded(comment("x", -1))),
		doc(root(1), kidded(text("x", 0), 2), element("b", 1)),
		doc(root(1), kidded(comment("x", 0), 2), text("y", 1)),
		doc(root(), kidded(text("x", -1), 0)),
		doc(root(), element("a", 1, 1)),                                       // a circle
		doc(root(), element("a", 2, 2), element("b", 1, 1)),                   // a circle
		doc(root(3), element("a", 2, 2), element("b", 1, 1), element("c", 0)), // a circle
		doc(root(), element("a", 2, 2), element("b", 1, 1, 3), text("x", 2)),  // below a circle
		doc(root(), element("a", 3, 2), element("b", 1, 3), element("c", 2, 1)),
		long,
		doc(root(), text("x", -1), element("", -1)),
		doc(root(1), withMany(element("a", 0), 31)),
	}
}

// kidded answers a node with these below it; without any, with one that is none.
func kidded(n api.Node, kids ...int) api.Node {
	if n.Kids = kids; len(kids) == 0 {
		n.Kids = []int{-1}
	}
	return n
}

// over answers documents of too many nodes, right ones but for this, and wrong ones.
func over() []api.Doc {
	return []api.Doc{many(301), deep(301), many(5000), {Nodes: make([]api.Node, 301)}, {Nodes: make([]api.Node, 100000)}}
}

// P16.1: all documents of a few nodes: what each is, where it stands, and what it has below it.
func TestSmallDocs(t *testing.T) {
	lists := [][]int{nil}
	for a := range 3 {
		lists = append(lists, kids(a))
		for b := range 3 {
			lists = append(lists, kids(a, b))
		}
	}
	lists = append(lists, kids(-1), kids(3))
	var first, other []api.Node
	for _, list := range lists {
		for parent := -1; parent < 3; parent++ {
			first = append(first, api.Node{Kind: api.NodeRoot, Parent: parent, Kids: list})
			other = append(other, element("a", parent, list...), kidded(text("x", parent), list...))
			if len(list) == 0 {
				other[len(other)-1].Kids = nil
			}
		}
	}
	right := 0
	for _, r := range first {
		for _, a := range other {
			for _, b := range other {
				d := doc(r, a, b)
				want := modelCheck(d)
				if err := dom.Check(d); err != want {
					t.Fatalf("P16.1: Check(%+v): %d, not %d", d, err, want)
				}
				if want == api.OK {
					right++
				}
			}
		}
	}
	// Elements or texts each: both nowhere, one in the root, both in it in either order; or one in the other, an element, which is in the root or nowhere.
	if want := 4 + 2*4 + 2*4 + 2*2*2; right != want {
		t.Errorf("%d of the documents are right, not %d", right, want)
	}
}

// P16.2: where a node is said to stand, and what is said to be below it, plays no part.
func TestMakeAlone(t *testing.T) {
	for _, x := range []struct {
		node api.Node
		want api.Node
	}{
		{element("b", 0), element("b", -1)},
		{element("b", 777, 1, 2, 3), element("b", -1)},
		{element("b", -2, -1, -1), element("b", -1)},
		{element("b", math.MinInt, math.MaxInt), element("b", -1)},
		{kidded(text("x", 1), 1, 2), text("x", -1)},
		{kidded(comment("x", 5), 0), comment("x", -1)},
		{with(element("b", 1, 1), "p", "1", "q", "2"), with(element("b", -1), "p", "1", "q", "2")},
		{api.Node{Kind: api.NodeElement, Name: "b", Parser: true, Kids: kids(0)}, api.Node{Kind: api.NodeElement, Name: "b", Parser: true, Parent: -1}},
		{api.Node{Kind: api.NodeElement, Name: "b", Started: true}, api.Node{Kind: api.NodeElement, Name: "b", Started: true, Parent: -1}},
	} {
		d := page()
		want := copyOf(d)
		want.Nodes = append(want.Nodes, x.want)
		if out, n, err := dom.Make(d, x.node); err != api.OK || n != 11 || !same(out, want) {
			t.Errorf("P16.2: Make of %+v: %+v, %d, %d", x.node, out, n, err)
		}
	}
	for _, n := range []api.Node{root(), root(1), element("", 0), text("x", -1)} {
		if n.Kind == api.NodeText {
			n.Name = "b"
		}
		if out, place, err := dom.Make(page(), n); err != api.ErrArg || place != 0 || out.Nodes != nil {
			t.Errorf("P16.2: Make of %+v: %+v, %d, %d", n, out, place, err)
		}
	}
}

// P16.2: a document takes 300 nodes; that a node may not be is told first.
func TestMakeLimit(t *testing.T) {
	for _, d := range []api.Doc{many(299), deep(299)} {
		out, n, err := dom.Make(d, text("x", -1))
		if err != api.OK || n != 299 || len(out.Nodes) != 300 || !sameNode(out.Nodes[299], text("x", -1)) {
			t.Fatalf("P16.2: Make of the last one: %d, %d", n, err)
		}
		if none, n, err := dom.Make(out, text("x", -1)); err != api.ErrLimit || n != 0 || none.Nodes != nil {
			t.Errorf("P16.2: Make of one more: %d, %d", n, err)
		}
		if none, n, err := dom.Make(out, element("", -1)); err != api.ErrArg || n != 0 || none.Nodes != nil {
			t.Errorf("P16.2: Make of one more, which may not be: %d, %d", n, err)
		}
		if none, n, err := dom.Make(out, root()); err != api.ErrArg || n != 0 || none.Nodes != nil {
			t.Errorf("P16.2: Make of a root more: %d, %d", n, err)
		}
	}
}

// P16.3: what is put stands as the last one, is taken from where it stood, and keeps what is below it.
func TestPut(t *testing.T) {
	for _, x := range []struct {
		parent, n int
		err       api.Errno
		kids      []int // of parent
		left      []int // of who had n
		from      int   // who had n, if it is another one
	}{
		{0, 8, api.OK, kids(1, 7, 8), nil, -1},
		{0, 10, api.OK, kids(1, 7, 10), nil, -1},
		{0, 1, api.OK, kids(7, 1), nil, -1}, // among the same ones
		{0, 7, api.OK, kids(1, 7), nil, -1}, // as it was
		{1, 2, api.OK, kids(3, 4, 5, 2), nil, -1},
		{1, 4, api.OK, kids(2, 3, 5, 4), nil, -1},
		{1, 5, api.OK, kids(2, 3, 4, 5), nil, -1},
		{0, 2, api.OK, kids(1, 7, 2), kids(3, 4, 5), 1},
		{0, 5, api.OK, kids(1, 7, 5), kids(2, 3, 4), 1},
		{0, 6, api.OK, kids(1, 7, 6), nil, 5}, // up
		{2, 5, api.OK, kids(5), kids(2, 3, 4), 1},
		{5, 2, api.OK, kids(6, 2), kids(3, 4, 5), 1},
		{5, 4, api.OK, kids(6, 4), kids(2, 3, 5), 1},
		{8, 1, api.OK, kids(9, 1), kids(7), 0}, // out of the page
		{8, 10, api.OK, kids(9, 10), nil, -1},
		{5, 8, api.OK, kids(6, 8), nil, -1},
		{5, 9, api.OK, kids(6, 9), nil, 8},
		{0, 0, api.ErrDomNode, nil, nil, -1},
		{1, 0, api.ErrDomNode, nil, nil, -1},
		{3, 0, api.ErrDomNode, nil, nil, -1},
		{3, 2, api.ErrDomNode, nil, nil, -1},
		{4, 2, api.ErrDomNode, nil, nil, -1},
		{3, 3, api.ErrDomNode, nil, nil, -1}, // a text that is put into itself
		{6, 5, api.ErrDomNode, nil, nil, -1}, // and one that is below
		{4, 1, api.ErrDomNode, nil, nil, -1},
		{0, 11, api.ErrDomNode, nil, nil, -1},
		{11, 1, api.ErrDomNode, nil, nil, -1},
		{-1, 1, api.ErrDomNode, nil, nil, -1},
		{0, -1, api.ErrDomNode, nil, nil, -1},
		{11, 11, api.ErrDomNode, nil, nil, -1},
		{-1, -1, api.ErrDomNode, nil, nil, -1},
		{math.MinInt, math.MaxInt, api.ErrDomNode, nil, nil, -1},
		{1, 1, api.ErrDomCircle, nil, nil, -1},
		{2, 1, api.ErrDomCircle, nil, nil, -1},
		{5, 1, api.ErrDomCircle, nil, nil, -1},
		{5, 5, api.ErrDomCircle, nil, nil, -1},
		{8, 8, api.ErrDomCircle, nil, nil, -1},
	} {
		out, err := dom.Put(page(), x.parent, x.n)
		if err != x.err {
			t.Errorf("P16.3: Put(%d, %d): %d, not %d", x.parent, x.n, err, x.err)
			continue
		}
		if err != api.OK {
			if out.Nodes != nil {
				t.Errorf("R1: Put(%d, %d): %+v", x.parent, x.n, out)
			}
			continue
		}
		want := page()
		want.Nodes[x.n].Parent, want.Nodes[x.parent].Kids = x.parent, x.kids
		if x.from >= 0 {
			want.Nodes[x.from].Kids = x.left
		}
		if !same(out, want) {
			t.Errorf("P16.3: Put(%d, %d): %+v, not %+v", x.parent, x.n, out, want)
		}
	}
}

// P16.3: what is cut stands nowhere, with all below it; what stands nowhere may be cut, too.
func TestCut(t *testing.T) {
	for _, x := range []struct {
		n    int
		err  api.Errno
		from int
		left []int
	}{
		{1, api.OK, 0, kids(7)},
		{7, api.OK, 0, kids(1)},
		{2, api.OK, 1, kids(3, 4, 5)},
		{4, api.OK, 1, kids(2, 3, 5)},
		{5, api.OK, 1, kids(2, 3, 4)},
		{6, api.OK, 5, nil},
		{9, api.OK, 8, nil},
		{8, api.OK, -1, nil},
		{10, api.OK, -1, nil},
		{0, api.ErrDomNode, -1, nil},
		{-1, api.ErrDomNode, -1, nil},
		{11, api.ErrDomNode, -1, nil},
		{math.MinInt, api.ErrDomNode, -1, nil},
		{math.MaxInt, api.ErrDomNode, -1, nil},
	} {
		out, err := dom.Cut(page(), x.n)
		var want api.Doc
		if x.err == api.OK {
			want = page()
			want.Nodes[x.n].Parent = -1
		}
		if x.from >= 0 {
			want.Nodes[x.from].Kids = x.left
		}
		if err != x.err || !same(out, want) {
			t.Errorf("P16.3: Cut(%d): %+v, %d, not %+v, %d", x.n, out, err, want, x.err)
		}
	}
}

// P16.4: an attribute that is there keeps its place, another one is behind the others.
func TestSet(t *testing.T) {
	for _, x := range []struct {
		n           int
		name, value string
		err         api.Errno
		attrs       []string
	}{
		{1, "p", "7", api.OK, []string{"p", "7", "q", ""}},
		{1, "q", "7", api.OK, []string{"p", "1", "q", "7"}},
		{1, "q", "", api.OK, []string{"p", "1", "q", ""}},
		{1, "p", "", api.OK, []string{"p", "", "q", ""}},
		{1, "P", "7", api.OK, []string{"p", "1", "q", "", "P", "7"}}, // letters' size counts
		{1, "", "7", api.OK, []string{"p", "1", "q", "", "", "7"}},
		{1, "p ", "\xff", api.OK, []string{"p", "1", "q", "", "p ", "\xff"}},
		{2, "p", "7", api.OK, []string{"p", "7"}},
		{5, "p", "7", api.OK, []string{"p", "7"}},
		{5, "", "", api.OK, []string{"", ""}},
		{8, "", "7", api.OK, []string{"", "7", "P", "4"}}, // also of one that stands nowhere
		{8, "p", "7", api.OK, []string{"", "3", "P", "4", "p", "7"}},
		{0, "p", "7", api.ErrDomNode, nil},
		{3, "p", "7", api.ErrDomNode, nil},
		{4, "p", "7", api.ErrDomNode, nil},
		{10, "", "", api.ErrDomNode, nil},
		{11, "p", "7", api.ErrDomNode, nil},
		{-1, "p", "7", api.ErrDomNode, nil},
		{math.MinInt, "p", "7", api.ErrDomNode, nil},
		{math.MaxInt, "p", "7", api.ErrDomNode, nil},
	} {
		out, err := dom.Set(page(), x.n, x.name, x.value)
		var want api.Doc
		if x.err == api.OK {
			want = page()
			want.Nodes[x.n].Attrs = with(api.Node{}, x.attrs...).Attrs
		}
		if err != x.err || !same(out, want) {
			t.Errorf("P16.4: Set(%d, %q, %q): %+v, %d, not %+v, %d", x.n, x.name, x.value, out, err, want, x.err)
		}
	}
}

// P16.4: an element takes 30 attributes, and more values of these.
func TestSetLimit(t *testing.T) {
	d := doc(root(1, 2), withMany(element("a", 0), 29), element("b", 0))
	d, err := dom.Set(d, 1, "29", "last")
	if value, ok := dom.Attr(d, 1, "29"); err != api.OK || value != "last" || !ok || len(d.Nodes[1].Attrs) != 30 {
		t.Fatalf("P16.4: Set of the last one: %d, %+v", err, d)
	}
	for _, name := range []string{"30", "", "x", "V"} {
		if none, err := dom.Set(d, 1, name, "w"); err != api.ErrLimit || none.Nodes != nil {
			t.Errorf("P16.4: Set of %q as one more: %+v, %d", name, none, err)
		}
		if _, err := dom.Set(d, 2, name, "w"); err != api.OK {
			t.Errorf("P16.4: Set of %q of another one: %d", name, err)
		}
	}
	for _, name := range []string{"0", "15", "29"} {
		out, err := dom.Set(d, 1, name, "w")
		if value, ok := dom.Attr(out, 1, name); err != api.OK || value != "w" || !ok || len(out.Nodes[1].Attrs) != 30 {
			t.Errorf("P16.4: Set of %q: %q, %v, %d", name, value, ok, err)
		}
	}
}

// P16.4: which attributes there are.
func TestAttr(t *testing.T) {
	for _, x := range []struct {
		n     int
		name  string
		value string
		ok    bool
	}{
		{1, "p", "1", true},
		{1, "q", "", true},
		{2, "p", "2", true},
		{8, "", "3", true},
		{8, "P", "4", true},
		{1, "P", "", false},
		{1, "", "", false},
		{1, "p ", "", false},
		{2, "q", "", false},
		{5, "p", "", false},
		{8, "p", "", false},
		{0, "p", "", false},
		{3, "p", "", false},
		{3, "", "", false},
		{4, "p", "", false},
		{11, "p", "", false},
		{-1, "p", "", false},
		{math.MinInt, "", "", false},
		{math.MaxInt, "", "", false},
	} {
		if value, ok := dom.Attr(page(), x.n, x.name); value != x.value || ok != x.ok {
			t.Errorf("P16.4: Attr(%d, %q): %q, %v, not %q, %v", x.n, x.name, value, ok, x.value, x.ok)
		}
	}
}

// P16.5: what is below a node, in document order, their text, and what is in.
func TestTold(t *testing.T) {
	for _, x := range []struct {
		n     int
		below []int
		text  string
		in    bool
	}{
		{0, kids(0, 1, 2, 3, 4, 5, 6, 7), "xzw", true},
		{1, kids(1, 2, 3, 4, 5, 6), "xz", true},
		{2, kids(2), "", true},
		{3, kids(3), "x", true},
		{4, kids(4), "", true}, // a comment's Data is no text
		{5, kids(5, 6), "z", true},
		{6, kids(6), "z", true},
		{7, kids(7), "w", true},
		{8, kids(8, 9), "v", false},
		{9, kids(9), "v", false},
		{10, kids(10), "u", false},
		{11, nil, "", false},
		{-1, nil, "", false},
		{-2, nil, "", false},
		{300, nil, "", false},
		{math.MinInt, nil, "", false},
		{math.MaxInt, nil, "", false},
	} {
		if below := dom.Below(page(), x.n); !slices.Equal(below, x.below) {
			t.Errorf("P16.5: Below(%d): %v, not %v", x.n, below, x.below)
		}
		if s := dom.Text(page(), x.n); s != x.text {
			t.Errorf("P16.5: Text(%d): %q, not %q", x.n, s, x.text)
		}
		if in := dom.In(page(), x.n); in != x.in {
			t.Errorf("P16.5: In(%d): %v, not %v", x.n, in, x.in)
		}
	}
	mixed := doc(root(5, 2), text("a", 3), element("p", 0, 4, 3), element("q", 2, 1, 6), text("b", 2), text("c", 0), text("\xff", 3))
	if below, s := dom.Below(mixed, 0), dom.Text(mixed, 0); !slices.Equal(below, kids(0, 5, 2, 4, 3, 1, 6)) || s != "cba\xff" {
		t.Errorf("P16.5: order is the document's, not the numbers': %v, %q", below, s)
	}
}

// P16.1 to P16.5: of a document that is not right, or has too many nodes, each call tells so, ahead of all else, or nothing.
func TestNotRight(t *testing.T) {
	for _, d := range append(wrong(), over()...) {
		want := api.ErrDomForm
		if len(d.Nodes) > 300 {
			want = api.ErrLimit
		}
		var was api.Doc
		if len(d.Nodes) < 10000 {
			was = copyOf(d)
		}
		for _, n := range nodes {
			if out, place, err := dom.Make(d, n.node); err != want || place != 0 || out.Nodes != nil {
				t.Fatalf("P16.2: Make in a document that is not right: %+v, %d, %d", out, place, err)
			}
		}
		for _, n := range []int{-1, 0, 1, 2, 300, math.MaxInt} {
			for _, parent := range []int{-1, 0, 1, 2, 300} {
				if out, err := dom.Put(d, parent, n); err != want || out.Nodes != nil {
					t.Fatalf("P16.3: Put(%d, %d) in a document that is not right: %+v, %d", parent, n, out, err)
				}
			}
			if out, err := dom.Cut(d, n); err != want || out.Nodes != nil {
				t.Fatalf("P16.3: Cut(%d) in a document that is not right: %+v, %d", n, out, err)
			}
			if out, err := dom.Set(d, n, "p", "1"); err != want || out.Nodes != nil {
				t.Fatalf("P16.4: Set(%d) in a document that is not right: %+v, %d", n, out, err)
			}
			value, ok := dom.Attr(d, n, "p")
			if below := dom.Below(d, n); value != "" || ok || below != nil || dom.Text(d, n) != "" || dom.In(d, n) {
				t.Fatalf("P16.5: of a document that is not right something is told of node %d", n)
			}
		}
		if was.Nodes != nil && !same(d, was) {
			t.Errorf("R2: a document that is not right is changed")
		}
	}
	attrs := doc(root(), with(element("a", -1), "p", "1"), element("b", 0))
	if value, ok := dom.Attr(attrs, 1, "p"); value != "" || ok {
		t.Errorf("P16.4: Attr in a document that is not right: %q, %v", value, ok)
	}
}

// shape tells a document's nodes as text.
func shape(d api.Doc) string {
	var s strings.Builder
	for _, n := range d.Nodes {
		s.WriteString(strconv.Itoa(int(n.Kind)) + n.Name + n.Data + ":" + strconv.Itoa(n.Parent))
		for _, kid := range n.Kids {
			s.WriteString(" " + strconv.Itoa(kid))
		}
		s.WriteString("|")
	}
	return s.String()
}

// P16.1 to P16.6: all documents of up to 4 nodes that calls make of a new one, and all calls on each of them.
func TestAllSmall(t *testing.T) {
	todo, seen := []api.Doc{dom.New()}, map[string]bool{}
	meet := func(d api.Doc, err api.Errno) {
		if err == api.OK && len(d.Nodes) <= 4 && !seen[shape(d)] {
			seen[shape(d)] = true
			todo = append(todo, d)
		}
	}
	for len(todo) > 0 {
		d := todo[0]
		todo = todo[1:]
		for _, n := range []api.Node{element("a", -1), text("x", -1)} {
			checkMake(t, d, n)
			out, _, err := dom.Make(d, n)
			meet(out, err)
		}
		for n := -1; n <= len(d.Nodes); n++ {
			checkTold(t, d, n)
			checkSet(t, d, n, "p", "1")
			checkCut(t, d, n)
			meet(dom.Cut(d, n))
			for parent := -1; parent <= len(d.Nodes); parent++ {
				checkPut(t, d, parent, n)
				meet(dom.Put(d, parent, n))
			}
		}
	}
	// Of 1, 2 and 3 nodes beside the root, in all orders.
	if want := 4 + 28 + 320; len(seen) != want {
		t.Errorf("%d documents were met, not %d", len(seen), want)
	}
}

// P16.1 to P16.6: all calls on documents by hand, with all nodes and numbers.
func TestAllCalls(t *testing.T) {
	for _, d := range []api.Doc{
		dom.New(), page(), deep(13), many(13),
		doc(root(1), with(withMany(element("a", 0, 2), 29), "p", "1"), text("x", 1)),
		doc(root(2), with(element("a", 2), "P", "1"), with(element("b", 0, 3, 1), "", "2"), text("", 2)),
		doc(root(), element("a", 1, 1)),
		{},
	} {
		checkAll(t, d)
	}
}

// P16.1 to P16.6: the longest row of nodes below each other, and the greatest number of kids.
func TestGreatDocs(t *testing.T) {
	d, last := dom.New(), 0
	for at := 1; at < 299; at++ {
		var err, putErr api.Errno
		var n int
		d, n, err = dom.Make(d, element("e", -1))
		d, putErr = dom.Put(d, last, n)
		if n != at || err != api.OK || putErr != api.OK {
			t.Fatalf("P16.2, P16.3: node %d: %d, %d, %d", at, n, err, putErr)
		}
		last = n
	}
	if !same(d, deep(299)) {
		t.Errorf("P16.3: a row of nodes: %s", shape(d))
	}
	d, n, err := dom.Make(d, text("x", -1))
	if d, _ = dom.Put(d, 298, n); err != api.OK || n != 299 || !dom.In(d, 299) || dom.Text(d, 0) != "x" || dom.Text(d, 298) != "x" {
		t.Errorf("P16.5: the text of the last node: %d, %d, %q", n, err, dom.Text(d, 0))
	}
	checkTold(t, d, 0)
	checkTold(t, d, 150)
	for _, x := range [][2]int{{298, 1}, {1, 298}, {150, 149}, {149, 150}, {299, 1}, {1, 299}, {0, 299}} {
		checkPut(t, d, x[0], x[1])
	}
	checkCut(t, d, 1)
	checkCut(t, d, 150)
	wide := many(300)
	checkTold(t, wide, 0)
	checkPut(t, wide, 0, 1)
	checkPut(t, wide, 299, 1)
	checkCut(t, wide, 150)
	checkMake(t, wide, text("x", -1))
}

// P16.1 to P16.6: long rows of calls of all kinds; which ones, is always the same.
func TestLongRows(t *testing.T) {
	r := rand.New(rand.NewPCG(16, 1))
	d := dom.New()
	for step := range 6000 {
		n, parent := r.IntN(len(d.Nodes)+2)-1, r.IntN(len(d.Nodes)+2)-1
		name := []string{"", "p", "P", "q"}[r.IntN(4)]
		var out api.Doc
		var err api.Errno
		switch r.IntN(12) {
		case 0, 1:
			node := nodes[r.IntN(len(nodes))].node
			checkMake(t, d, node)
			out, _, err = dom.Make(d, node)
		case 2:
			checkCut(t, d, n)
			out, err = dom.Cut(d, n)
		case 3, 4:
			checkSet(t, d, n, name, strconv.Itoa(step))
			out, err = dom.Set(d, n, name, strconv.Itoa(step))
		case 5, 6:
			checkTold(t, d, n)
			continue
		default:
			checkPut(t, d, parent, n)
			out, err = dom.Put(d, parent, n)
		}
		if err == api.OK {
			d = out
		}
		if len(d.Nodes) > 40 {
			d = dom.New()
		}
	}
}

// P16.1: right documents in which one thing was changed; which one, is always the same.
func TestSpoilt(t *testing.T) {
	r := rand.New(rand.NewPCG(16, 2))
	for range 30000 {
		d := page()
		place := r.IntN(len(d.Nodes))
		n := &d.Nodes[place]
		number := r.IntN(len(d.Nodes)+3) - 2
		switch r.IntN(8) {
		case 0:
			n.Parent = number
		case 1:
			n.Kids = append(n.Kids, number)
		case 2:
			if len(n.Kids) > 0 {
				n.Kids[r.IntN(len(n.Kids))] = number
			}
		case 3:
			n.Kids = n.Kids[:len(n.Kids)/2]
		case 4:
			n.Kind = api.NodeKind(r.IntN(6))
		case 5:
			n.Name = []string{"", "b"}[r.IntN(2)]
		case 6:
			n.Data = []string{"", "b"}[r.IntN(2)]
		case 7: // a node is put elsewhere, right or below itself
			other := r.IntN(len(d.Nodes))
			for at := range d.Nodes {
				d.Nodes[at].Kids = slices.DeleteFunc(d.Nodes[at].Kids, func(kid int) bool { return kid == other })
			}
			n.Kids = append(n.Kids, other)
			d.Nodes[other].Parent = place
		}
		if err, want := dom.Check(d), modelCheck(d); err != want {
			t.Fatalf("P16.1: Check(%+v): %d, not %d", d, err, want)
		}
	}
}
