package chain_test

import (
	"math"
	"slices"
	"strconv"
	"strings"
	"testing"

	"pounce/api"
	"pounce/chain"
	"pounce/header"
	"pounce/source"
	"pounce/url"
)

// Marks that were reckoned by hand, as words.
const (
	markF = "'mark-B30MwRXyD1Ebnsf2AAAAAw=='" // of f()
	markG = "'mark-B34OwieM5z4tiHDgAAAAAw=='" // of g()
)

// requestKinds are all kinds of requests, and numbers that are none's.
var requestKinds = []api.RequestKind{math.MinInt, -1, 0, 1, 2, 3, 4, 5, 6, 7, 8, 1 << 32, 1<<32 + 1, math.MaxInt}

// directiveNames are those that speak of what is run, and others.
var directiveNames = []string{"script-src-elem", "script-src-attr", "script-src", "default-src", "img-src", "script-src-", "style-src-elem"}

// address answers what a text that must be right is parsed as.
func address(t *testing.T, text string) api.URL {
	t.Helper()
	u, e := url.Parse(text)
	if e != api.OK {
		t.Fatalf("%q is no address: %d", text, e)
	}
	return u
}

// policies answers what texts tell, each of them one policy; one that begins with `report ` is a report.
func policies(t *testing.T, texts ...string) []api.Policy {
	t.Helper()
	list := []api.Policy{}
	for _, text := range texts {
		text, report := strings.CutPrefix(text, "report ")
		l := header.Parse(text, report)
		if len(l) != 1 {
			t.Fatalf("%q is %d policies", text, len(l))
		}
		list = append(list, l[0])
	}
	return list
}

// policy answers the one that a text tells.
func policy(t *testing.T, text string) api.Policy {
	t.Helper()
	return policies(t, text)[0]
}

// inline is the request to run f() of an element.
func inline() api.Request { return api.Request{Kind: api.RequestInline, Text: "f()"} }

// byKind answers what is told of a kind: of those that ask for an element's directive, for an attribute's, for neither, or of no kind's number.
func byKind(k api.RequestKind, element, attr, eval, none string) string {
	switch k {
	case api.RequestInline, api.RequestFetch, api.RequestGo:
		return element
	case api.RequestAttr:
		return attr
	case api.RequestEval, api.RequestWasm:
		return eval
	}
	return none
}

func sameVerdict(a, b api.Verdict) bool { return a.Ok == b.Ok && slices.Equal(a.Blocks, b.Blocks) }

// P12.1: the names that the chapter tells, of each kind, and of numbers that are no kind's.
func TestNames(t *testing.T) {
	for _, k := range requestKinds {
		want := byKind(k, "script-src-elem script-src default-src", "script-src-attr script-src default-src", "script-src default-src", "")
		if got := chain.Names(k); strings.Join(got, " ") != want {
			t.Errorf("P12.1: Names of %d: %q", k, got)
		}
	}
}

// P12.1: which directive counts, by kind; a `-` is none.
func TestEffective(t *testing.T) {
	for _, row := range []struct {
		policy              string
		element, attr, eval string // the name that counts
	}{
		{"img-src 'none'", "-", "-", "-"},
		{"script 'none'; script-src- 'none'; script-src-elems 'none'; style-src 'none'; default 'none'", "-", "-", "-"},
		{"default-src 'none'", "default-src", "default-src", "default-src"},
		{"script-src 'none'", "script-src", "script-src", "script-src"},
		{"script-src-elem 'none'", "script-src-elem", "-", "-"},
		{"script-src-attr 'none'", "-", "script-src-attr", "-"},
		{"default-src a; script-src b", "script-src", "script-src", "script-src"},
		{"script-src b; default-src a", "script-src", "script-src", "script-src"}, // the order of names counts, not that of directives
		{"default-src a; script-src-elem c", "script-src-elem", "default-src", "default-src"},
		{"default-src a; script-src-attr d", "default-src", "script-src-attr", "default-src"},
		{"script-src-attr d; script-src-elem c", "script-src-elem", "script-src-attr", "-"},
		{"script-src b; script-src-attr d; script-src-elem c; default-src a", "script-src-elem", "script-src-attr", "script-src"},
		{"default-src a; script-src-elem c; script-src-attr d; script-src b", "script-src-elem", "script-src-attr", "script-src"},
		{"SCRIPT-SRC b; Default-Src a", "script-src", "script-src", "script-src"},
		{"script-src; default-src a", "script-src", "script-src", "script-src"}, // one without words counts as well
		{"script-src-elem; script-src-attr 'x'; script-src b", "script-src-elem", "script-src-attr", "script-src"},
	} {
		p := policy(t, row.policy)
		for _, k := range requestKinds {
			checkEffective(t, p, k, byKind(k, row.element, row.attr, row.eval, "-"))
		}
	}
}

// checkEffective asks for the sources of the words of that name; a `-` is no name.
func checkEffective(t *testing.T, p api.Policy, k api.RequestKind, want string) {
	t.Helper()
	l, name, there := chain.Effective(p, k)
	if want == "-" {
		if l != nil || name != "" || there {
			t.Errorf("P12.1: Effective of %+v and %d: %+v, %q, %t", p, k, l, name, there)
		}
		return
	}
	words, _ := header.Find(p, want)
	if !slices.Equal(l, source.List(words)) || name != want || !there {
		t.Errorf("P12.1: Effective of %+v and %d: %+v, %q, %t", p, k, l, name, there)
	}
}

// P12.1: the sources, written out by hand: words that are none's are left out.
func TestEffectiveSources(t *testing.T) {
	for _, row := range []struct {
		policy string
		want   []api.Source
	}{
		{"script-src", nil},
		{"script-src 'x' a..b", nil},
		{"script-src 'NONE' 'x' a:80 'none'; default-src b", []api.Source{{Kind: api.SourceNone}, {Kind: api.SourceHost, Host: "a", Port: 80}, {Kind: api.SourceNone}}},
		{"default-src 'nonce-aB' https:; img-src b", []api.Source{{Kind: api.SourceNonce, Text: "aB"}, {Kind: api.SourceScheme, Scheme: "https"}}},
		{"script-src-elem *; script-src a", []api.Source{{Kind: api.SourceHost, Wild: true}}},
	} {
		l, _, there := chain.Effective(policy(t, row.policy), api.RequestInline)
		if !slices.Equal(l, row.want) || !there {
			t.Errorf("P12.1: Effective of %s: %+v, %t", row.policy, l, there)
		}
	}
}

// P12.1: policies that are not right: of two directives with one name the first counts, and a name with great letters is none of these.
func TestEffectiveWrongPolicies(t *testing.T) {
	a, b := api.Directive{Name: "script-src", Words: []string{"a"}}, api.Directive{Name: "script-src", Words: []string{"b"}}
	great := api.Directive{Name: "Script-Src-Elem", Words: []string{"c"}}
	blank := api.Directive{Name: "script-src-elem ", Words: []string{"c"}}
	host := func(name string) []api.Source { return []api.Source{{Kind: api.SourceHost, Host: name}} }
	for at, row := range []struct {
		directives []api.Directive
		want       []api.Source
	}{
		{[]api.Directive{a, b}, host("a")},
		{[]api.Directive{b, a}, host("b")},
		{[]api.Directive{{Name: "script-src"}, a}, nil},
		{[]api.Directive{great, a}, host("a")},
		{[]api.Directive{blank, {}, b}, host("b")},
		{[]api.Directive{{Name: "script-src", Words: []string{"", "a b", "a,b", "\xff", "b"}}}, host("b")},
	} {
		l, name, there := chain.Effective(api.Policy{Directives: row.directives}, api.RequestInline)
		if !slices.Equal(l, row.want) || name != "script-src" || !there {
			t.Errorf("P12.1: row %d: %+v, %q, %t", at, l, name, there)
		}
	}
	for _, d := range []api.Directive{great, blank, {}} {
		if l, name, there := chain.Effective(api.Policy{Directives: []api.Directive{d}}, api.RequestInline); l != nil || name != "" || there {
			t.Errorf("P12.1: Effective of %+v: %+v, %q, %t", d, l, name, there)
		}
	}
}

// P12.2: no name of the kind's: true and an empty name.
func TestOneOfNone(t *testing.T) {
	for _, k := range requestKinds {
		for _, p := range []api.Policy{{}, {Report: true}, policy(t, "img-src 'none'")} {
			if ok, name := chain.One(p, api.Request{Kind: k, Text: "f()"}); !ok || name != "" {
				t.Errorf("P12.2: One of %+v and the kind %d: %t, %q", p, k, ok, name)
			}
		}
		every := policy(t, "default-src 'none'; script-src 'none'; script-src-elem 'none'; script-src-attr 'none'")
		kind := k >= 1 && k <= 6
		if ok, name := chain.One(every, api.Request{Kind: k, Text: "f()"}); ok != !kind || (name == "") != !kind {
			t.Errorf("P12.2: One of all names and the kind %d: %t, %q", k, ok, name)
		}
	}
}

// P12.2: rows written out by hand; the name is told too where the request is let be.
func TestOne(t *testing.T) {
	for _, row := range []struct {
		words                                   string
		element, fetch, attr, goes, evals, wasm bool
	}{
		{"", false, false, false, false, false, false},
		{"'none'", false, false, false, false, false, false},
		{"'unsafe-inline'", true, false, true, true, false, false},
		{"'unsafe-inline' 'nonce-m'", false, false, false, false, false, false},
		{"'nonce-n'", true, true, false, false, false, false},
		{markF, true, false, false, false, false, false},
		{markF + " 'unsafe-hashes'", true, false, true, true, false, false},
		{markG + " 'unsafe-hashes'", false, false, false, false, false, false},
		{"'unsafe-eval'", false, false, false, false, true, true},
		{"'wasm-unsafe-eval'", false, false, false, false, false, true},
		{"b/x", false, true, false, false, false, false},
		{"b/y", false, false, false, false, false, false},
		{"'self'", false, false, false, false, false, false},
		{"'strict-dynamic'", false, true, false, false, false, false},
		{"'report-sample' 'x'", false, false, false, false, false, false},
	} {
		wants := map[api.RequestKind]bool{1: row.element, 2: row.fetch, 3: row.attr, 4: row.goes, 5: row.evals, 6: row.wasm}
		for k, want := range wants {
			r := api.Request{Kind: k, Text: "f()", Nonce: "n", URL: address(t, "http://b/x"), Self: address(t, "http://a/")}
			for _, name := range chain.Names(k) {
				if ok, told := chain.One(policy(t, name+" "+row.words), r); ok != want || told != name {
					t.Errorf("P12.2: One of %s %s and the kind %d: %t, %q", name, row.words, k, ok, told)
				}
			}
		}
	}
}

// P12.2: each part of a request that is asked for is asked for as it is.
func TestOneParts(t *testing.T) {
	a, b := address(t, "http://a/"), address(t, "http://b/x")
	for _, row := range []struct {
		words string
		r     api.Request
		want  bool
	}{
		{"'nonce-n'", api.Request{Kind: api.RequestInline, Nonce: "n", Text: "m"}, true},
		{"'nonce-n'", api.Request{Kind: api.RequestInline, Nonce: "m", Text: "n"}, false},
		{markF, api.Request{Kind: api.RequestInline, Nonce: "f()", Text: "g()"}, false},
		{"'nonce-n'", api.Request{Kind: api.RequestFetch, Nonce: "n", URL: b, Self: a}, true},
		{"'nonce-n'", api.Request{Kind: api.RequestFetch, Text: "n", URL: b, Self: a}, false},
		{"'self'", api.Request{Kind: api.RequestFetch, URL: a, Self: a}, true},
		{"'self'", api.Request{Kind: api.RequestFetch, URL: b, Self: a}, false},
		{"b", api.Request{Kind: api.RequestFetch, URL: b, Self: a}, true},
		{"b", api.Request{Kind: api.RequestFetch, URL: a, Self: b}, false},
		{"b/y", api.Request{Kind: api.RequestFetch, URL: b, Self: a}, false},
		{"b/y", api.Request{Kind: api.RequestFetch, URL: b, Self: a, Moved: true}, true},
		{"'strict-dynamic' b", api.Request{Kind: api.RequestFetch, URL: b, Self: a}, true},
		{"'strict-dynamic' b", api.Request{Kind: api.RequestFetch, URL: b, Self: a, Parser: true}, false},
		{"'unsafe-inline' 'unsafe-eval'", api.Request{Kind: api.RequestFetch, URL: b, Self: a}, false},
		{"'unsafe-inline' * 'self'", api.Request{Kind: api.RequestEval, URL: a, Self: a}, false},
		{"'unsafe-inline' * 'self' 'unsafe-eval'", api.Request{Kind: api.RequestWasm}, true},
		{"* 'self' 'unsafe-eval' 'wasm-unsafe-eval'", api.Request{Kind: api.RequestGo, URL: a, Self: a}, false},
	} {
		if ok, name := chain.One(policy(t, "default-src "+row.words), row.r); ok != row.want || name != "default-src" {
			t.Errorf("P12.2: One of %s and %+v: %t, %q", row.words, row.r, ok, name)
		}
	}
}

// P12.2: whether a policy is a report plays no part.
func TestOneOfReport(t *testing.T) {
	for _, text := range []string{"script-src 'none'", "default-src 'unsafe-inline'", "img-src a"} {
		strict, report := policies(t, text, "report "+text)[0], policies(t, "report "+text)[0]
		ok, name := chain.One(strict, inline())
		if okToo, nameToo := chain.One(report, inline()); okToo != ok || nameToo != name {
			t.Errorf("P12.2: One of %s as a report: %t, %q", text, okToo, nameToo)
		}
	}
}

// P12.3: the chapter's examples, and rows written out by hand.
func TestAll(t *testing.T) {
	for _, row := range []struct {
		texts []string
		want  api.Verdict
	}{
		{nil, api.Verdict{Ok: true}},
		{[]string{"img-src 'none'"}, api.Verdict{Ok: true}},
		{[]string{"default-src 'unsafe-inline'"}, api.Verdict{Ok: true}},
		{[]string{"script-src 'none'; script-src-elem 'unsafe-inline'"}, api.Verdict{Ok: true}},
		{[]string{"default-src 'unsafe-inline'", "script-src 'none'; script-src-elem 'unsafe-inline'"}, api.Verdict{Ok: true}},
		{[]string{"default-src 'self'", "report script-src 'none'"}, api.Verdict{Blocks: []api.Break{{Policy: 0, Name: "default-src"}, {Policy: 1, Name: "script-src", Report: true}}}},
		{[]string{"report script-src 'none'", "default-src 'self'"}, api.Verdict{Blocks: []api.Break{{Policy: 0, Name: "script-src", Report: true}, {Policy: 1, Name: "default-src"}}}},
		{[]string{"report script-src 'none'"}, api.Verdict{Ok: true, Blocks: []api.Break{{Policy: 0, Name: "script-src", Report: true}}}},
		{[]string{"report script-src 'none'", "report default-src"}, api.Verdict{Ok: true, Blocks: []api.Break{{Policy: 0, Name: "script-src", Report: true}, {Policy: 1, Name: "default-src", Report: true}}}},
		{[]string{"img-src a", "script-src " + markF, "script-src-elem " + markG, "report script-src 'unsafe-inline'"}, api.Verdict{Blocks: []api.Break{{Policy: 2, Name: "script-src-elem"}}}}, // places are those of the whole list
		{[]string{"script-src 'none'", "script-src 'none'", "script-src " + markF}, api.Verdict{Blocks: []api.Break{{Policy: 0, Name: "script-src"}, {Policy: 1, Name: "script-src"}}}},
		{[]string{"script-src 'unsafe-inline'; default-src 'none'; script-src-attr 'none'"}, api.Verdict{Ok: true}},
	} {
		if got := chain.All(policies(t, row.texts...), inline()); !sameVerdict(got, row.want) {
			t.Errorf("P12.3: %q: %+v, not %+v", row.texts, got, row.want)
		}
	}
}

// P12.3: of each kind just those policies block that have one of its names; each break tells its policy's own name and Report.
func TestAllByKind(t *testing.T) {
	l := policies(t, "script-src-elem 'none'", "script-src-attr 'none'", "report script-src 'none'", "default-src 'none'")
	for k, want := range map[api.RequestKind]string{
		0: "", 1: "0 2 3", 2: "0 2 3", 3: "1 2 3", 4: "0 2 3", 5: "2 3", 6: "2 3", 7: "",
	} {
		v := chain.All(l, api.Request{Kind: k})
		places := []string{}
		for _, b := range v.Blocks {
			places = append(places, strconv.Itoa(b.Policy))
			if b.Name != l[b.Policy].Directives[0].Name || b.Report != (b.Policy == 2) {
				t.Errorf("P12.3: of the kind %d: %+v", k, b)
			}
		}
		if strings.Join(places, " ") != want || v.Ok != (want == "") {
			t.Errorf("P12.3: All of the kind %d: %+v", k, v)
		}
	}
}

// somePolicies are of all names, with words that let each kind of request be, and that do not.
func somePolicies(t *testing.T) []api.Policy {
	t.Helper()
	words := []string{"", "'none'", "'unsafe-inline'", "'nonce-n' b", markF + " 'unsafe-hashes'", "'strict-dynamic' 'unsafe-eval'", "* 'self' 'wasm-unsafe-eval' 'x'"}
	list := []api.Policy{{}, {Report: true}}
	for at, name := range directiveNames {
		for step, first := range words {
			one := name + " " + first
			list = append(list, policies(t, one, "report "+one)...)
			for next, other := range directiveNames {
				if next != at {
					list = append(list, policy(t, one+"; "+other+" "+words[(step+at+next)%len(words)]+"; x y"))
				}
			}
		}
	}
	return list
}

// someRequests are of all kinds, each with nonces, texts and addresses of which some are let be.
func someRequests(t *testing.T) []api.Request {
	t.Helper()
	list := []api.Request{}
	self := address(t, "http://a/")
	for _, k := range requestKinds {
		for _, nonce := range []string{"", "n"} {
			for _, text := range []string{"f()", "g()"} {
				for _, where := range []string{"http://a/x", "http://b/", "data:x"} {
					for n := range 4 {
						list = append(list, api.Request{Kind: k, Nonce: nonce, Text: text, URL: address(t, where), Self: self, Moved: n&1 == 1, Parser: n&2 == 2})
					}
				}
			}
		}
	}
	return list
}

// P12.1, P12.2: all policies with all requests, against the model.
func TestAgainstModel(t *testing.T) {
	count := map[string]int{}
	for _, p := range somePolicies(t) {
		for _, r := range someRequests(t) {
			want, wantName := modelOne(p, r)
			ok, name := chain.One(p, r)
			if ok != want || name != wantName {
				t.Fatalf("P12.2: One of %+v and %+v: %t, %q, not %t, %q", p, r, ok, name, want, wantName)
			}
			count[strconv.FormatBool(ok)+name]++
			wantSources, _ := modelEffective(p, r.Kind)
			l, told, there := chain.Effective(p, r.Kind)
			if !slices.Equal(l, wantSources) || told != wantName || there != (wantName != "") {
				t.Fatalf("P12.1: Effective of %+v and %d: %+v, %q, %t", p, r.Kind, l, told, there)
			}
		}
	}
	if len(count) != 9 { // no name, and four names, each let be and not
		t.Errorf("P12.2: the sorts of answers are %v", count)
	}
}

// P12.3: lists of none to twelve policies, more than a page has, against the model.
func TestAllAgainstModel(t *testing.T) {
	some := somePolicies(t)
	okay := 0
	for at, r := range someRequests(t) {
		for size := range 13 {
			l := []api.Policy{}
			for n := range size {
				l = append(l, some[(at*17+size*5+n*31)%len(some)])
			}
			got, want := chain.All(l, r), modelAll(l, r)
			if !sameVerdict(got, want) {
				t.Fatalf("P12.3: All of %+v and %+v: %+v, not %+v", l, r, got, want)
			}
			if got.Ok && len(got.Blocks) > 0 {
				okay++
			}
		}
	}
	if okay < 20 {
		t.Errorf("P12.3: only %d verdicts are of reports alone", okay)
	}
}

// P12.4: one policy more, wherever it stands, lets nothing be that was not let be; a report changes nothing of Ok.
func TestOneMore(t *testing.T) {
	some := somePolicies(t)
	lists := [][]api.Policy{
		nil,
		policies(t, "script-src 'none'"),
		policies(t, "report script-src 'none'"),
		policies(t, "script-src 'unsafe-inline' 'unsafe-eval' *", "report default-src 'self'"),
		policies(t, "default-src 'nonce-n' 'strict-dynamic' b", "script-src-attr "+markF+" 'unsafe-hashes'; img-src a"),
	}
	requests := someRequests(t)
	for step, p := range some {
		for at := step % 5; at < len(requests); at += 5 {
			for _, l := range lists {
				before := chain.All(l, requests[at])
				for place := range len(l) + 1 {
					after := chain.All(slices.Insert(slices.Clone(l), place, p), requests[at])
					if after.Ok && !before.Ok || p.Report && after.Ok != before.Ok {
						t.Fatalf("P12.4: %+v of %+v, %+v: with %+v more: %+v", before, l, requests[at], p, after)
					}
				}
			}
		}
	}
}

// P12.4: a policy that has none of a kind's names lets each request of it be.
func TestNoName(t *testing.T) {
	for _, r := range someRequests(t) {
		texts := []string{"img-src 'none'; style-src-elem 'none'", "report script-src-", "default 'none'",
			byKind(r.Kind, "script-src-attr 'none'", "script-src-elem 'none'", "script-src-elem 'none'; script-src-attr 'none'", "script-src-elem; script-src-attr; script-src; default-src"),
		}
		if v := chain.All(policies(t, texts...), r); !v.Ok || len(v.Blocks) > 0 {
			t.Errorf("P12.4: All of %q and %+v: %+v", texts, r, v)
		}
	}
}

// R2: lists that come out are new, and share no memory with one another or with what was handed in.
func TestNewLists(t *testing.T) {
	for _, k := range requestKinds {
		first, second := chain.Names(k), chain.Names(k)
		for at := range first {
			first[at] = "x"
		}
		_ = append(first[:0], "y", "z", "x")
		if !slices.Equal(second, strings.Fields(modelNames[k])) || !slices.Equal(chain.Names(k), second) {
			t.Errorf("R2: Names of %d share memory: %q", k, second)
		}
	}
	p := policy(t, "script-src 'nonce-n' a 'x' b")
	first, _, _ := chain.Effective(p, api.RequestEval)
	second, _, _ := chain.Effective(p, api.RequestEval)
	want := slices.Clone(first)
	clear(first)
	if !slices.Equal(second, want) {
		t.Errorf("R2: two answers of Effective share memory: %+v", second)
	}
	clear(p.Directives[0].Words)
	if !slices.Equal(second, want) {
		t.Errorf("R2: an answer of Effective hangs on what was handed in: %+v", second)
	}
	l := policies(t, "script-src a", "default-src b")
	one, two := chain.All(l, inline()), chain.All(l, inline())
	clear(one.Blocks)
	_ = append(one.Blocks[:0], api.Break{Name: "x"}, api.Break{Name: "x"})
	clear(l)
	if !slices.Equal(two.Blocks, []api.Break{{Policy: 0, Name: "script-src"}, {Policy: 1, Name: "default-src"}}) {
		t.Errorf("R2: two verdicts share memory: %+v", two)
	}
}

// R2: what is handed in stays as it is, and what a call answers hangs on its arguments alone.
func TestAgain(t *testing.T) {
	whole, again := somePolicies(t), somePolicies(t)
	l, r := whole[:20:30], inline()
	before := chain.All(l, r)
	for _, other := range someRequests(t) {
		chain.All(whole, other)
		chain.One(whole[0], other)
		chain.Effective(whole[20], other.Kind)
	}
	if got := chain.All(l, r); !sameVerdict(got, before) {
		t.Errorf("R2: %+v, then %+v", before, got)
	}
	for at, p := range whole {
		same := slices.EqualFunc(p.Directives, again[at].Directives, func(d, e api.Directive) bool {
			return d.Name == e.Name && slices.Equal(d.Words, e.Words)
		})
		if !same || p.Report != again[at].Report {
			t.Fatalf("R2: %+v has become %+v", again[at], p)
		}
	}
}

// R1, R4: many policies, long texts of any bytes, and numbers that are none's.
func TestLong(t *testing.T) {
	bytes := make([]byte, 256)
	for n := range bytes {
		bytes[n] = byte(n)
	}
	text := strings.Repeat(string(bytes), 400)
	words := slices.Repeat([]string{text, "", "'x'", "a..b"}, 100)
	wrong := api.Policy{Directives: slices.Repeat([]api.Directive{{}, {Name: text, Words: words}}, 100)}
	long := api.URL{Scheme: text, Host: text, Path: text, Port: math.MinInt, Query: text}
	named := api.Policy{Directives: append(slices.Clone(wrong.Directives), api.Directive{Name: "script-src", Words: words})}
	l := slices.Repeat([]api.Policy{wrong, {}, named}, 20)
	for _, k := range requestKinds {
		v := chain.All(l, api.Request{Kind: k, Text: text, Nonce: text, URL: long, Self: long, Moved: true})
		if k < 1 || k > 6 {
			if !v.Ok || len(v.Blocks) > 0 {
				t.Errorf("R1, R4: of the kind %d: %+v", k, v)
			}
			continue
		}
		if v.Ok || len(v.Blocks) != 20 || v.Blocks[19] != (api.Break{Policy: 59, Name: "script-src"}) {
			t.Errorf("R1, R4: of the kind %d: %+v", k, v)
		}
	}
}
