package allow_test

import (
	"math"
	"slices"
	"strings"
	"testing"

	"pounce/allow"
	"pounce/api"
	"pounce/match"
	"pounce/source"
	"pounce/url"
)

// Marks that were reckoned by hand, as words.
const (
	markNone = "'mark-AAAABwAAAAsAAABNAAAAAA=='" // of the empty text: 7, 11, 77, 0
	markA    = "'mark-AAAHaQALAIMV7AC0AAAAAQ=='" // of a: 1897, 721027, 367788212, 1
	markF    = "'mark-B30MwRXyD1Ebnsf2AAAAAw=='" // of f(): 125635777, 368185169, 463390710, 3
	markG    = "'mark-B34OwieM5z4tiHDgAAAAAw=='" // of g(): 125701826, 663545662, 763916512, 3
)

// requestKinds are all kinds of requests, and numbers that are none's.
var requestKinds = []api.RequestKind{math.MinInt, -1, 0, 1, 2, 3, 4, 5, 6, 7, 8, 1 << 32, 1<<32 + 1, math.MaxInt}

// harmless are the words of sources that take nothing away.
var harmless = []string{"'none'", "'self'", "'unsafe-inline'", "'unsafe-eval'", "'wasm-unsafe-eval'", "'unsafe-hashes'", "'report-sample'", "https:", "a", "http://*.b:*/x/", "*"}

// address answers what a text that must be right is parsed as.
func address(t *testing.T, text string) api.URL {
	t.Helper()
	u, e := url.Parse(text)
	if e != api.OK {
		t.Fatalf("%q is no address: %d", text, e)
	}
	return u
}

// list answers the sources of words, each of which must be one's.
func list(t *testing.T, words string) []api.Source {
	t.Helper()
	l := []api.Source{}
	for _, word := range strings.Fields(words) {
		s, ok := source.Parse(word)
		if !ok {
			t.Fatalf("%q is no source's word", word)
		}
		l = append(l, s)
	}
	return l
}

// answers are what all calls answer of a list and a request, but Inline and Eval of the request's kind alone.
type answers struct {
	url, nonce, hash, loose, inline, fetch, eval bool
}

func ask(l []api.Source, r api.Request) answers {
	return answers{
		url:    allow.Url(l, r.URL, r.Self, r.Moved),
		nonce:  allow.Nonce(l, r.Nonce),
		hash:   allow.Hash(l, r.Text),
		loose:  allow.Loose(l),
		inline: allow.Inline(l, r.Kind, r.Nonce, r.Text),
		fetch:  allow.Fetch(l, r),
		eval:   allow.Eval(l, r.Kind),
	}
}

// askModel answers what the model says of the same.
func askModel(l []api.Source, r api.Request, mark string) answers {
	facts := modelFacts(l, r, mark)
	return answers{
		url:    modelHolds(facts, "url"),
		nonce:  modelHolds(facts, "nonce"),
		hash:   modelHolds(facts, "hash"),
		loose:  modelHolds(facts, "loose"),
		inline: modelOfKind(facts, "inline", r.Kind),
		fetch:  modelHolds(facts, "fetch"),
		eval:   modelOfKind(facts, "eval", r.Kind),
	}
}

// P11.1: the sources that match, wherever they stand in the list.
func TestUrl(t *testing.T) {
	for _, row := range []struct {
		words, address, self string
		still, moved         bool
	}{
		{"", "http://a/", "http://a/", false, false},
		{"'none'", "http://a/", "http://a/", false, false},
		{"'self'", "http://a/x", "http://a/", true, true},
		{"'self'", "http://b/x", "http://a/", false, false},
		{"'none' 'self'", "http://a/x", "http://a/", true, true}, // 'none' beside others is nothing
		{"'self' 'none'", "http://a/x", "http://a/", true, true},
		{"b c d", "http://b/", "http://a/", true, true},
		{"b c d", "http://c/", "http://a/", true, true},
		{"b c d", "http://d/", "http://a/", true, true},
		{"b c d", "http://e/", "http://a/", false, false},
		{"b/x c/x", "http://b/x", "http://a/", true, true},
		{"b/x c/x", "http://c/y", "http://a/", false, true},
		{"b/x c/x", "http://d/y", "http://a/", false, false},
		{"b:81 c", "http://b/", "http://a/", false, false}, // one source must say all of it
		{"https://b http://c", "http://b/", "http://a/", false, false},
		{"b", "https://b/", "http://a/", true, true},
		{"b", "http://b/", "https://a/", false, false}, // which of the two is self's
		{"'unsafe-inline' 'unsafe-eval' 'wasm-unsafe-eval' 'unsafe-hashes' 'report-sample' 'strict-dynamic' 'nonce-n' " + markA, "http://a/", "http://a/", false, false},
		{"'strict-dynamic' a", "http://a/", "http://b/", true, true}, // here 'strict-dynamic' plays no part
		{"'nonce-n' https:", "https://b/", "http://a/", true, true},
		{"https: data:", "data:x", "http://a/", true, true},
		{"*", "data:x", "http://a/", false, false},
	} {
		l, u, self := list(t, row.words), address(t, row.address), address(t, row.self)
		if got := allow.Url(l, u, self, false); got != row.still {
			t.Errorf("P11.1: Url of %s, %s and %s: %t", row.words, row.address, row.self, got)
		}
		if got := allow.Url(l, u, self, true); got != row.moved {
			t.Errorf("P11.1: Url of %s, %s and %s, moved: %t", row.words, row.address, row.self, got)
		}
	}
	for _, wrong := range []api.URL{{}, {Scheme: "http", Host: "a"}, {Scheme: "http", Host: "a", Port: 80, Path: "/"}, {Opaque: true, Scheme: "http", Path: "x"}} {
		if allow.Url(list(t, "'self' http: http://*:* *"), wrong, wrong, true) {
			t.Errorf("P11.1: Url of %+v", wrong)
		}
	}
}

// P11.1: nonces written out by hand.
func TestNonce(t *testing.T) {
	for _, row := range []struct {
		words, nonce string
		want         bool
	}{
		{"", "", false},
		{"", "n", false},
		{"'nonce-n'", "n", true},
		{"'nonce-n'", "", false},
		{"'nonce-n'", "N", false}, // a nonce's letters are of their size
		{"'nonce-N'", "n", false},
		{"'nonce-n'", "m", false},
		{"'nonce-n'", "nn", false},
		{"'nonce-nn'", "n", false},
		{"'nonce-n'", " n", false},
		{"'nonce-n'", "n ", false},
		{"'nonce-n'", "n\x00", false},
		{"'nonce-n'", "'nonce-n'", false},
		{"'nonce-a+/='", "a+/=", true},
		{"'nonce-a+/='", "a-_=", false}, // the same bits, but not the same text
		{"'nonce-a+/='", "a+/", false},
		{"'NONCE-n'", "n", true},
		{"'nonce-l' 'nonce-m' 'nonce-n'", "l", true},
		{"'nonce-l' 'nonce-m' 'nonce-n'", "m", true},
		{"'nonce-l' 'nonce-m' 'nonce-n'", "n", true},
		{"'nonce-l' 'nonce-m' 'nonce-n'", "o", false},
		{"'none' 'nonce-n' 'none'", "n", true},
		{"'strict-dynamic' 'nonce-n' 'unsafe-inline'", "n", true},
		{"'unsafe-inline'", "n", false},
		{"n https: " + markA, "n", false},
	} {
		if got := allow.Nonce(list(t, row.words), row.nonce); got != row.want {
			t.Errorf("P11.1: Nonce of %s and %q: %t", row.words, row.nonce, got)
		}
	}
}

// P11.1: an empty nonce is none, even where a source has no text; and only a SourceNonce has one.
func TestNonceKinds(t *testing.T) {
	for kind := api.SourceKind(-1); kind < 15; kind++ {
		for _, text := range []string{"", "n"} {
			l := []api.Source{{Kind: kind, Text: text, Scheme: text, Host: text, Path: text}}
			want := kind == api.SourceNonce && text != ""
			if got := allow.Nonce(l, text); got != want {
				t.Errorf("P11.1: Nonce of the kind %d and %q: %t", kind, text, got)
			}
		}
	}
	loose := []api.Source{{Kind: api.SourceNonce, Text: "any \xff text"}, {Kind: api.SourceNonce}}
	if !allow.Nonce(loose, "any \xff text") || allow.Nonce(loose, "") {
		t.Error("P11.1: Nonce of sources that are not right")
	}
}

// P11.1: marks written out by hand.
func TestHash(t *testing.T) {
	for _, row := range []struct {
		words, text string
		want        bool
	}{
		{"", "", false},
		{"", "a", false},
		{markNone, "", true},
		{markNone, "a", false},
		{markA, "a", true},
		{markA, "", false},
		{markA, "A", false},
		{markA, "a ", false},
		{markA, "aa", false},
		{markF, "f()", true},
		{markF, "f() ", false}, // a text's blanks are of it
		{markF, "F()", false},
		{markF, "g()", false},
		{markF, strings.Trim(markF, "'"), false},
		{markF + " " + markG, "f()", true},
		{markF + " " + markG, "g()", true},
		{markF + " " + markG, "a", false},
		{markA + " " + markG + " " + markF, "g()", true},
		{"'none' " + markF, "f()", true},
		{"'strict-dynamic' 'unsafe-inline' " + markF, "f()", true},
		{"'unsafe-inline' 'unsafe-hashes'", "f()", false},
		{"'nonce-f' 'unsafe-hashes' f", "f", false},
		{"'nonce-B30MwRXyD1Ebnsf2AAAAAw=='", "f()", false},
	} {
		if got := allow.Hash(list(t, row.words), row.text); got != row.want {
			t.Errorf("P11.1: Hash of %s and %q: %t", row.words, row.text, got)
		}
	}
}

// P11.1: only a SourceHash has a mark; the text itself is none, nor is a part of a mark.
func TestHashKinds(t *testing.T) {
	mark := modelMark("f()")
	for kind := api.SourceKind(-1); kind < 15; kind++ {
		l := []api.Source{{Kind: kind, Text: mark, Scheme: mark, Host: mark, Path: mark}}
		if got := allow.Hash(l, "f()"); got != (kind == api.SourceHash) {
			t.Errorf("P11.1: Hash of the kind %d: %t", kind, got)
		}
		if allow.Nonce(l, mark) != (kind == api.SourceNonce) || allow.Nonce(l, "f()") {
			t.Errorf("P11.1: Nonce of a mark in the kind %d", kind)
		}
	}
	for _, text := range []string{"", "f()", mark[:15], mark[1:], mark + "\x00", "B30MwRXyD1Ebnsf2AAAAAw=="} {
		if allow.Hash([]api.Source{{Kind: api.SourceHash, Text: text}}, "f()") {
			t.Errorf("P11.1: Hash of %q", text)
		}
	}
	for at := range mark { // each of the sixteen bytes plays a part
		other := []byte(mark)
		other[at]++
		if allow.Hash([]api.Source{{Kind: api.SourceHash, Text: string(other)}}, "f()") {
			t.Errorf("P11.1: Hash of a mark whose byte %d is another one", at)
		}
	}
}

// P11.1: texts of all bytes, and of up to MaxScript bytes, against the model.
func TestHashAgainstModel(t *testing.T) {
	texts := []string{strings.Repeat("\x00", 3), strings.Repeat("f(\xff);", 50), strings.Repeat("x", api.MaxScript)}
	for n := range 256 {
		texts = append(texts, string([]byte{byte(n)}), "f"+string([]byte{byte(n)})+"g")
	}
	l := []api.Source{}
	for _, text := range texts {
		if allow.Hash(l, text) {
			t.Errorf("P11.1: Hash of %.20q, whose mark is not there yet", text)
		}
		l = append(l, api.Source{Kind: api.SourceHash, Text: modelMark(text)})
		if !allow.Hash(l, text) {
			t.Errorf("P11.1: Hash of %.20q", text)
		}
	}
}

// P11.1: each set of kinds, those that are none too.
func TestLoose(t *testing.T) {
	for set := range 1 << 14 {
		l, kinds := []api.Source{}, map[api.SourceKind]bool{}
		for kind := range api.SourceKind(14) {
			if set>>kind&1 == 1 {
				l, kinds[kind] = append(l, api.Source{Kind: kind}), true
			}
		}
		want := kinds[api.SourceInline] && !kinds[api.SourceNonce] && !kinds[api.SourceHash] && !kinds[api.SourceStrict]
		if got := allow.Loose(l); got != want {
			t.Fatalf("P11.1: Loose of %v: %t", l, got)
		}
	}
	for _, row := range []struct {
		words string
		want  bool
	}{
		{"", false},
		{"'none'", false},
		{"'unsafe-inline'", true},
		{"'UNSAFE-INLINE'", true},
		{"'none' 'unsafe-inline' 'unsafe-inline'", true},
		{"'unsafe-inline' 'self' 'unsafe-eval' 'wasm-unsafe-eval' 'unsafe-hashes' 'report-sample' https: *", true},
		{"'unsafe-inline' 'nonce-n'", false},
		{"'nonce-n' 'unsafe-inline'", false},
		{"'unsafe-inline' " + markA, false},
		{"'strict-dynamic' 'unsafe-inline'", false},
		{"'unsafe-eval' 'unsafe-hashes' *", false},
	} {
		if got := allow.Loose(list(t, row.words)); got != row.want {
			t.Errorf("P11.1: Loose of %s: %t", row.words, got)
		}
	}
}

// P11.2: the chapter's examples, and rows written out by hand: what of an element, an attribute and an address is let be.
func TestInline(t *testing.T) {
	for _, row := range []struct {
		words, nonce, text  string
		element, attr, goes bool
	}{
		{"'unsafe-inline'", "n", "f()", true, true, true},
		{"'unsafe-inline' 'nonce-m'", "n", "f()", false, false, false},
		{"'nonce-n'", "n", "f()", true, false, false}, // a nonce is an element's alone
		{"'none'", "n", "f()", false, false, false},
		{"", "n", "f()", false, false, false},
		{"", "", "", false, false, false},
		{"'unsafe-inline'", "", "", true, true, true},
		{"'unsafe-inline' 'none'", "", "f()", true, true, true},
		{"'unsafe-inline' 'nonce-n'", "n", "f()", true, false, false},
		{"'nonce-n'", "", "f()", false, false, false},
		{"'nonce-n' 'unsafe-hashes'", "n", "f()", true, false, false},
		{"'nonce-m' 'nonce-n'", "n", "f()", true, false, false},
		{"'unsafe-inline' 'strict-dynamic'", "n", "f()", false, false, false},
		{"'strict-dynamic'", "n", "f()", false, false, false},
		{"'strict-dynamic' 'nonce-n'", "n", "f()", true, false, false},
		{"'strict-dynamic' 'unsafe-hashes' " + markF, "n", "f()", true, true, true},
		{markF, "n", "f()", true, false, false}, // a mark is an attribute's only with 'unsafe-hashes'
		{markF, "n", "g()", false, false, false},
		{"'unsafe-inline' " + markF, "n", "g()", false, false, false},
		{"'unsafe-inline' " + markF, "n", "f()", true, false, false},
		{"'unsafe-inline' 'unsafe-hashes' " + markF, "n", "f()", true, true, true},
		{"'unsafe-inline' 'unsafe-hashes' " + markF, "n", "g()", false, false, false},
		{"'unsafe-hashes' " + markF, "", "f()", true, true, true},
		{markF + " 'unsafe-hashes'", "", "f()", true, true, true},
		{"'unsafe-hashes' " + markF, "", "g()", false, false, false},
		{"'unsafe-hashes' " + markF + " " + markG, "", "g()", true, true, true},
		{"'unsafe-hashes' " + markNone, "", "", true, true, true},
		{"'unsafe-hashes'", "n", "f()", false, false, false},
		{"'unsafe-hashes' 'unsafe-inline'", "n", "f()", true, true, true},
		{"'nonce-n' " + markF, "m", "g()", false, false, false},
		{"'nonce-n' " + markF, "n", "g()", true, false, false},
		{"'nonce-n' " + markF, "m", "f()", true, false, false},
		{"'self' https: data: * 'unsafe-eval' 'wasm-unsafe-eval' 'report-sample'", "n", "f()", false, false, false},
	} {
		l := list(t, row.words)
		for _, k := range requestKinds {
			want := false
			switch k {
			case api.RequestInline:
				want = row.element
			case api.RequestAttr:
				want = row.attr
			case api.RequestGo:
				want = row.goes
			}
			if got := allow.Inline(l, k, row.nonce, row.text); got != want {
				t.Errorf("P11.2: Inline of %s, the kind %d, %q and %q: %t", row.words, k, row.nonce, row.text, got)
			}
		}
	}
}

// P11.3: rows written out by hand.
func TestFetch(t *testing.T) {
	for _, row := range []struct {
		words, nonce, address string
		parser, still         bool // as a parser laid it, and as none did
		moved                 bool // as a parser laid it, once moved
	}{
		{"", "", "http://a/x", false, false, false},
		{"", "n", "http://a/x", false, false, false},
		{"'none'", "n", "http://a/x", false, false, false},
		{"'self'", "", "http://a/x", true, true, true},
		{"'self'", "", "http://b/x", false, false, false},
		{"'none' 'self'", "", "http://a/x", true, true, true},
		{"b/y", "", "http://b/x", false, false, true},
		{"'nonce-n'", "n", "http://b/x", true, true, true},
		{"'nonce-n'", "n", "data:x", true, true, true},
		{"'nonce-n'", "m", "http://b/x", false, false, false},
		{"'nonce-n'", "", "http://b/x", false, false, false},
		{"'nonce-n' 'self'", "", "http://a/x", true, true, true}, // beside a nonce places still count
		{"'nonce-n' 'self'", "m", "http://a/x", true, true, true},
		{"'nonce-n' 'self'", "n", "http://b/x", true, true, true},
		{"'strict-dynamic'", "", "http://a/x", false, true, false},
		{"'strict-dynamic'", "n", "data:x", false, true, false},
		{"'strict-dynamic' 'none'", "", "http://a/x", false, true, false},
		{"'strict-dynamic' 'self'", "", "http://a/x", false, true, false}, // under it places do not
		{"'self' 'strict-dynamic'", "", "http://a/x", false, true, false},
		{"http: * a 'strict-dynamic'", "", "http://a/x", false, true, false},
		{"'strict-dynamic' 'nonce-n'", "n", "http://b/x", true, true, true},
		{"'nonce-n' 'strict-dynamic'", "m", "http://b/x", false, true, false},
		{"'nonce-n' 'strict-dynamic'", "", "http://a/x", false, true, false},
		{"'unsafe-inline'", "", "http://a/x", false, false, false},
		{"'unsafe-hashes' " + markF, "", "http://a/x", false, false, false}, // no text is asked for
		{"'unsafe-eval' 'wasm-unsafe-eval' 'report-sample'", "n", "http://a/x", false, false, false},
	} {
		l := list(t, row.words)
		for _, k := range requestKinds { // the kind and the text play no part
			for _, text := range []string{"", "f()", "x"} {
				r := api.Request{Kind: k, Text: text, URL: address(t, row.address), Nonce: row.nonce, Self: address(t, "http://a/")}
				if got := allow.Fetch(l, r); got != row.still {
					t.Errorf("P11.3: Fetch of %s and %+v: %t", row.words, r, got)
				}
				r.Parser = true
				if got := allow.Fetch(l, r); got != row.parser {
					t.Errorf("P11.3: Fetch of %s and %+v: %t", row.words, r, got)
				}
				r.Moved = true
				if got := allow.Fetch(l, r); got != row.moved {
					t.Errorf("P11.3: Fetch of %s and %+v: %t", row.words, r, got)
				}
			}
		}
	}
}

// P11.3: which of a request's addresses is asked for, and those that are not right.
func TestFetchAddresses(t *testing.T) {
	a, b := address(t, "http://a/"), address(t, "https://b/x")
	for _, row := range []struct {
		words     string
		u, self   api.URL
		laid, own bool // as a parser laid it, and as none did
	}{
		{"http://a", a, b, true, true},
		{"http://a", b, a, false, false},
		{"b", b, a, true, true},
		{"b", b, api.URL{}, false, false},
		{"'self'", a, a, true, true},
		{"'self'", a, b, false, false},
		{"'self' * http:", api.URL{}, a, false, false},
		{"'self' * http:", api.URL{}, api.URL{}, false, false},
		{"'self' * http:", api.URL{Scheme: "http", Host: "a"}, a, false, false},
		{"'strict-dynamic'", api.URL{}, api.URL{}, false, true}, // under it no address is asked for
	} {
		l := list(t, row.words)
		if got := allow.Fetch(l, api.Request{URL: row.u, Self: row.self, Parser: true}); got != row.laid {
			t.Errorf("P11.3: Fetch of %s, %+v and %+v, laid by a parser: %t", row.words, row.u, row.self, got)
		}
		if got := allow.Fetch(l, api.Request{URL: row.u, Self: row.self}); got != row.own {
			t.Errorf("P11.3: Fetch of %s, %+v and %+v: %t", row.words, row.u, row.self, got)
		}
	}
}

// P11.3: lists that let a text be run, and those that let code of the other kind be run alone.
func TestEval(t *testing.T) {
	for _, row := range []struct {
		words      string
		eval, wasm bool
	}{
		{"", false, false},
		{"'none'", false, false},
		{"'unsafe-eval'", true, true},
		{"'UNSAFE-eval'", true, true},
		{"'wasm-unsafe-eval'", false, true},
		{"'unsafe-eval' 'wasm-unsafe-eval'", true, true},
		{"'wasm-unsafe-eval' 'none' 'unsafe-eval'", true, true},
		{"'none' 'unsafe-eval'", true, true},
		{"'none' 'wasm-unsafe-eval'", false, true},
		{"'strict-dynamic' 'nonce-n' 'unsafe-eval' " + markA, true, true},
		{"'unsafe-inline' 'unsafe-hashes' 'strict-dynamic' 'report-sample' 'self' 'nonce-n' * https: " + markA, false, false},
	} {
		l := list(t, row.words)
		for _, k := range requestKinds {
			want := k == api.RequestEval && row.eval || k == api.RequestWasm && row.wasm
			if got := allow.Eval(l, k); got != want {
				t.Errorf("P11.3: Eval of %s and the kind %d: %t", row.words, k, got)
			}
		}
	}
}

// requests answers requests of all kinds, with nonces, texts and addresses of which some are let be by those that each list names.
func requests(t *testing.T) []api.Request {
	t.Helper()
	out := []api.Request{}
	self := address(t, "http://a/")
	for _, k := range requestKinds {
		for _, nonce := range []string{"", "n", "N"} {
			for _, text := range []string{"", "f()", "n"} {
				for _, where := range []string{"http://a/x", "https://b/y", "data:x"} {
					for n := range 4 {
						out = append(out, api.Request{Kind: k, Nonce: nonce, Text: text, URL: address(t, where), Moved: n&1 == 1, Parser: n&2 == 2, Self: self})
					}
				}
			}
		}
	}
	return out
}

// allWords has one source of each kind, and of some two.
var allWords = append([]string{"'strict-dynamic'", "'nonce-n'", "'nonce-m'", markF, markG, "b/x", "data:"}, harmless...)

// P11.1, P11.2, P11.3: all lists of up to two sources, and some longer ones, with all requests, against the model.
func TestAgainstModel(t *testing.T) {
	lists := [][]api.Source{nil}
	for at, word := range allWords {
		lists = append(lists, list(t, word))
		for _, other := range allWords {
			lists = append(lists, list(t, word+" "+other))
		}
		lists = append(lists, list(t, strings.Join(allWords[at:], " ")), list(t, strings.Join(allWords[:at], " ")))
	}
	marks := map[string]string{}
	count := map[answers]int{}
	for _, r := range requests(t) {
		mark, there := marks[r.Text]
		if !there {
			mark = modelMark(r.Text)
			marks[r.Text] = mark
		}
		for _, l := range lists {
			got, want := ask(l, r), askModel(l, r, mark)
			count[want]++
			if got != want {
				t.Fatalf("P11.1, P11.2, P11.3: %+v of %#v, %+v: not %+v", got, l, r, want)
			}
		}
	}
	if len(count) < 25 {
		t.Errorf("P11.1, P11.2, P11.3: only %d sorts of answers", len(count))
	}
}

// P11.4: a list of nothing, or of SourceNone alone, lets nothing be; one with SourceStrict fetches what no parser laid.
func TestNothing(t *testing.T) {
	lists := [][]api.Source{nil, {}, list(t, "'none'"), list(t, "'none' 'none' 'NONE'"), make([]api.Source, 0, 9)}
	for _, r := range requests(t) {
		for _, l := range lists {
			if got := ask(l, r); got != (answers{}) {
				t.Fatalf("P11.4: %v of %+v: %+v", l, r, got)
			}
		}
		for _, words := range []string{"'strict-dynamic'", "'strict-dynamic' 'none'", "'none' 'self' http: 'strict-dynamic'", "'strict-dynamic' 'nonce-m'"} {
			if got := allow.Fetch(list(t, words), r); got == r.Parser {
				t.Fatalf("P11.4: Fetch of %s and %+v: %t", words, r, got)
			}
		}
	}
}

// P11.4: the order of sources, and how often each is there, play no part.
func TestOrder(t *testing.T) {
	some := requests(t)
	for _, words := range []string{
		"'unsafe-inline' 'nonce-n' 'unsafe-eval'",
		"'none' 'unsafe-inline' 'self'",
		"'strict-dynamic' 'self' 'nonce-n'",
		"'unsafe-hashes' " + markF + " 'unsafe-inline'",
		"'wasm-unsafe-eval' b/x data:",
		"'nonce-m' 'nonce-n' 'none'",
		markG + " " + markF + " 'unsafe-hashes'",
	} {
		l := list(t, words)
		one, two, three := l[0], l[1], l[2]
		others := [][]api.Source{
			{one, three, two}, {two, one, three}, {two, three, one}, {three, one, two}, {three, two, one},
			{one, one, two, three}, {one, two, two, three}, {one, two, three, three}, {three, one, two, three, two, one},
			slices.Repeat(l, 100),
		}
		for _, r := range some {
			want := ask(l, r)
			for _, other := range others {
				if got := ask(other, r); got != want {
					t.Fatalf("P11.4: %+v of %s and %+v in another order: %+v", want, words, r, got)
				}
			}
		}
	}
}

// P11.4: one source more that is none of SourceNonce, SourceHash and SourceStrict takes nothing away; the others do of what is loose.
func TestOneMore(t *testing.T) {
	lists := [][]api.Source{nil}
	for at, word := range allWords {
		lists = append(lists, list(t, word))
		for _, other := range allWords[at+1:] {
			lists = append(lists, list(t, word+" "+other))
		}
	}
	more := list(t, strings.Join(harmless, " "))
	more = append(more, api.Source{}, api.Source{Kind: 13}, api.Source{Kind: -1, Text: "n"}, api.Source{Kind: math.MaxInt})
	some := requests(t)
	for step, l := range lists {
		for at := step % 7; at < len(some); at += 7 {
			before := ask(l, some[at])
			for _, s := range more {
				after := ask(append(slices.Clone(l), s), some[at])
				if lost(before, after) {
					t.Fatalf("P11.4: %+v of %#v, %+v: with %+v more: %+v", before, l, some[at], s, after)
				}
			}
		}
	}
	for _, word := range []string{"'nonce-n'", markF, "'strict-dynamic'"} {
		if allow.Inline(list(t, "'unsafe-inline' "+word), api.RequestAttr, "", "g()") {
			t.Errorf("P11.1: 'unsafe-inline' beside %s is loose", word)
		}
	}
}

func lost(before, after answers) bool {
	return before.url && !after.url || before.nonce && !after.nonce || before.hash && !after.hash || before.loose && !after.loose ||
		before.inline && !after.inline || before.fetch && !after.fetch || before.eval && !after.eval
}

// P11.1: a list lets an address be just where one of its sources does, alone.
func TestUrlOneByOne(t *testing.T) {
	l := list(t, strings.Join(allWords, " "))
	for _, text := range []string{"http://a/x", "https://a/", "http://b/x", "http://x.b:7/x/y", "data:x", "blob:x", "ws://a/"} {
		for _, moved := range []bool{false, true} {
			for from := range len(l) + 1 {
				for to := from; to <= len(l); to++ {
					u, self := address(t, text), address(t, "http://c/")
					want := false
					for _, s := range l[from:to] {
						want = want || match.Url(s, u, self, moved)
					}
					if got := allow.Url(l[from:to], u, self, moved); got != want {
						t.Errorf("P11.1: Url of %v, %s, %t: %t", allWords[from:to], text, moved, got)
					}
				}
			}
		}
	}
}

// R1, R4: long lists, long texts of any bytes, and sources that are not right.
func TestLong(t *testing.T) {
	bytes := make([]byte, 256)
	for n := range bytes {
		bytes[n] = byte(n)
	}
	text := strings.Repeat(string(bytes), 4000)
	l := slices.Repeat([]api.Source{{}, {Kind: math.MinInt, Port: math.MaxInt}, {Kind: api.SourceHost, Host: "b", Port: math.MinInt}, {Kind: api.SourceScheme}}, 5000)
	long := api.URL{Scheme: text, Host: text, Path: text, Port: math.MinInt, Query: text}
	r := api.Request{Kind: api.RequestInline, Text: text, Nonce: text, URL: long, Self: long}
	if got := ask(l, r); got != (answers{}) {
		t.Errorf("R1, R4: %+v", got)
	}
	l = append(l, api.Source{Kind: api.SourceNonce, Text: text}, api.Source{Kind: api.SourceHash, Text: modelMark(string(bytes))})
	if got := ask(l, r); got != (answers{nonce: true, inline: true, fetch: true}) {
		t.Errorf("R1, R4: with the nonce: %+v", got)
	}
	r.Nonce, r.Text = text[1:], string(bytes)
	if got := ask(l, r); got != (answers{hash: true, inline: true}) {
		t.Errorf("R1, R4: with the mark: %+v", got)
	}
	r.URL, r.Self = address(t, "http://b/"), address(t, "http://b/")
	if got := ask(append(l, list(t, "b 'unsafe-eval'")...), r); got != (answers{url: true, hash: true, inline: true, fetch: true}) {
		t.Errorf("R1, R4: with the address: %+v", got)
	}
}

// R2: what is handed in stays as it is, and what a call answers hangs on its arguments alone.
func TestAgain(t *testing.T) {
	whole := list(t, strings.Join(allWords, " "))
	l, before := whole[:5:8], slices.Clone(whole)
	some := requests(t)
	first := []answers{}
	for _, r := range some {
		first = append(first, ask(l, r))
	}
	for at := len(some) - 1; at >= 0; at-- {
		ask(whole, some[at])
		if got := ask(l, some[at]); got != first[at] {
			t.Fatalf("R2: %+v: %+v, then %+v", some[at], first[at], got)
		}
	}
	if !slices.Equal(whole, before) {
		t.Errorf("R2: %#v has become %#v", before, whole)
	}
	l[0] = api.Source{Kind: api.SourceInline} // what is handed in is not kept
	if !allow.Loose(l[:1]) || allow.Loose(list(t, allWords[0])) {
		t.Error("R2: a list that was handed in is kept")
	}
}
