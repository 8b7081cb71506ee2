package feed_test

import (
	"math/rand/v2"
	"slices"
	"strings"
	"testing"

	"pounce/api"
	"pounce/feed"
)

// odd is the code point 65533, which stands in the place of each byte that is none of a code point's.
const odd = "\xef\xbf\xbd"

// text answers a TokenText.
func text(data string) api.Token { return api.Token{Kind: api.TokenText, Data: data} }

// start answers a start tag; its attributes are told as names and values.
func start(name string, attrs ...string) api.Token {
	t := api.Token{Kind: api.TokenStart, Name: name}
	for at := 0; at < len(attrs); at += 2 {
		t.Attrs = append(t.Attrs, api.Attr{Name: attrs[at], Value: attrs[at+1]})
	}
	return t
}

// end answers an end tag.
func end(name string) api.Token { return api.Token{Kind: api.TokenEnd, Name: name} }

// comment answers a comment.
func comment(data string) api.Token { return api.Token{Kind: api.TokenComment, Data: data} }

// doctype answers a doctype.
func doctype(data string) api.Token { return api.Token{Kind: api.TokenDoctype, Data: data} }

// list answers these tokens.
func list(l ...api.Token) []api.Token { return l }

// fail answers one Fail alone.
func fail(code api.Errno, at int) []api.Fail { return []api.Fail{{Code: code, At: at}} }

// told is what is told of a document.
type told struct {
	tokens []api.Token
	fails  []api.Fail
	err    api.Errno
}

func tell(l []api.Token, f []api.Fail, err api.Errno) told { return told{l, f, err} }

// same answers whether the same is told; a list that is empty may be nil.
func same(a, b told) bool {
	tokens := slices.EqualFunc(a.tokens, b.tokens, func(t, u api.Token) bool {
		return t.Kind == u.Kind && t.Name == u.Name && t.Data == u.Data && t.Closed == u.Closed && slices.Equal(t.Attrs, u.Attrs)
	})
	return tokens && slices.Equal(a.fails, b.fails) && a.err == b.err
}

// over is told of what is beyond the limit.
var over = told{nil, nil, api.ErrLimit}

// row is a document, and what is told of it.
type row struct {
	document string
	want     told
}

// rows are documents with all that may be parted: code points, tags, names, values, raw texts, signs' texts, and bytes that are no text's.
var rows = []row{
	{"", told{}},
	{"a", told{tokens: list(text("a"))}},
	{"a&lt;b", told{tokens: list(text("a<b"))}},
	{"<script>a</script>", told{tokens: list(start("script"), text("a"), end("script"))}},
	{"<script>a<b</SCRIPT >c", told{tokens: list(start("script"), text("a<b"), end("script"), text("c"))}},
	{"\xc3\xa4", told{tokens: list(text("ä"))}},
	{"a\xe2\x82\xacb\xf0\x9f\x98\x80", told{tokens: list(text("a€b😀"))}},
	{"<\xc3\xa4>", told{list(text("<ä>")), fail(api.ErrTokenSign, 0), api.OK}},
	{"<a\xc3\xa4 \xc3\xa4=\xc3\xa4>\xc3\xa4</a\xc3\xa4>", told{tokens: list(start("aä", "ä", "ä"), text("ä"), end("aä"))}},
	{"<!--\xc3\xa4--><!doctype html>", told{tokens: list(comment("ä"), doctype("html"))}},
	{"\x00\n\x7f", told{tokens: list(text("\x00\n\x7f"))}},
	{"\xef\xbb\xbfa", told{tokens: list(text("\xef\xbb\xbfa"))}},
	// Bytes that are no text's are no error by themselves.
	{"\xff", told{tokens: list(text(odd))}},
	{"\xc3", told{tokens: list(text(odd))}},
	{"\xc3a", told{tokens: list(text(odd + "a"))}},
	{"\xa4\xc3", told{tokens: list(text(odd + odd))}},
	{"\xed\xa0\x80\xf0\x9f\x98", told{tokens: list(text(odd + odd + odd + odd + odd + odd))}},
	{"<a\xff b=\xe2\x82>\xc0\x80</a\xff>", told{tokens: list(start("a"+odd, "b", odd+odd), text(odd+odd), end("a"+odd))}},
	{"<script>\xff</script>", told{tokens: list(start("script"), text(odd), end("script"))}},
	{"<scr\xffipt>a", told{tokens: list(start("scr"+odd+"ipt"), text("a"))}},
	{"&l\xfft;", told{tokens: list(text("&l" + odd + "t;"))}},
	// A Fail's place counts the bytes of what is told, where a byte that is no text's is three.
	{"\xff<", told{list(text(odd + "<")), fail(api.ErrTokenSign, 3), api.OK}},
	{"\xc3\xa4\xff&#0;", told{list(text("ä" + odd + odd)), fail(api.ErrEntityForm, 5), api.OK}},
	{"\xff\xff<a b=\xff", told{list(text(odd + odd)), fail(api.ErrTokenCut, 6), api.OK}},
	{"<a b=1 b=2>", told{list(start("a", "b", "1")), fail(api.ErrTokenTwice, 7), api.OK}},
	{"a<b c", told{list(text("a")), fail(api.ErrTokenCut, 1), api.OK}},
	{"<script>", told{list(start("script")), fail(api.ErrTokenCut, 8), api.OK}},
}

// feedParts feeds s, cut at these places, and answers what is told at the end.
func feedParts(t *testing.T, f *feed.Feeder, s string, cuts ...int) told {
	t.Helper()
	from := 0
	for _, to := range append(cuts, len(s)) {
		if err := f.Feed([]byte(s[from:to])); err != api.OK || f.Count() != to {
			t.Fatalf("P15.2: Feed(%.99q) behind %d bytes: %d, Count %d", s[from:to], from, err, f.Count())
		}
		from = to
	}
	d := tell(f.End())
	if f.Count() != 0 {
		t.Fatalf("P15.2: Count behind the End of %.99q: %d", s, f.Count())
	}
	return d
}

// P15.1 to P15.3: the chapter's examples.
func TestExamples(t *testing.T) {
	for _, x := range []struct {
		parts []string
		want  []api.Token
	}{
		{[]string{"<scr", "ipt>a", "</script>"}, list(start("script"), text("a"), end("script"))},
		{[]string{"\xc3", "\xa4"}, list(text("ä"))},
	} {
		f, want := feed.New(), told{tokens: x.want}
		for _, part := range x.parts {
			if err := f.Feed([]byte(part)); err != api.OK {
				t.Errorf("P15.2: Feed(%q): %d", part, err)
			}
		}
		if d := tell(f.End()); !same(d, want) {
			t.Errorf("P15.2: of %q: %+v, not %+v", x.parts, d, want)
		}
		if d := tell(feed.Whole([]byte(strings.Join(x.parts, "")))); !same(d, want) {
			t.Errorf("P15.1: of %q: %+v, not %+v", x.parts, d, want)
		}
	}
}

// P15.1: documents as a whole, and that the model tells the same.
func TestWhole(t *testing.T) {
	for _, r := range rows {
		if d := tell(feed.Whole([]byte(r.document))); !same(d, r.want) {
			t.Errorf("P15.1: Whole(%q): %+v, not %+v", r.document, d, r.want)
		}
		if d := tell(modelWhole([]byte(r.document))); !same(d, r.want) {
			t.Errorf("the model tells %+v of %q, not %+v", d, r.document, r.want)
		}
	}
	if d := tell(feed.Whole(nil)); !same(d, told{}) {
		t.Errorf("P15.1: Whole of nothing: %+v", d)
	}
}

// P15.1: 20000 bytes are told, more are not; nor is a text of more bytes, which fewer are decoded as.
func TestWholeLimit(t *testing.T) {
	for _, x := range []struct {
		document string
		want     told
	}{
		{strings.Repeat("a", 19999), told{tokens: list(text(strings.Repeat("a", 19999)))}},
		{strings.Repeat("a", 20000), told{tokens: list(text(strings.Repeat("a", 20000)))}},
		{strings.Repeat("a", 20001), over},
		{strings.Repeat("a", 1000000), over},
		{strings.Repeat("ä", 10000), told{tokens: list(text(strings.Repeat("ä", 10000)))}},
		{strings.Repeat("ä", 10000) + "a", over},
		{strings.Repeat("&lt;", 5000), told{tokens: list(text(strings.Repeat("<", 5000)))}},
		{strings.Repeat("&lt;", 5000) + " ", over}, // what signs' texts stand for is not what is counted
		{strings.Repeat("a", 19997) + "\xff", told{tokens: list(text(strings.Repeat("a", 19997) + odd))}},
		{strings.Repeat("a", 19998) + "\xff", over},
		{strings.Repeat("a", 19999) + "\xc3", over},
		{strings.Repeat("\xff", 6666), told{tokens: list(text(strings.Repeat(odd, 6666)))}},
		{strings.Repeat("\xff", 6667), over},
		{strings.Repeat("\xff", 20000), over},
		{strings.Repeat("\xff", 20001), over},
	} {
		if d := tell(feed.Whole([]byte(x.document))); !same(d, x.want) {
			t.Errorf("P15.1: Whole of %d bytes, the last one %d: %d tokens, %v, %d", len(x.document), x.document[len(x.document)-1], len(d.tokens), d.fails, d.err)
		}
	}
}

// P15.2: what goes beyond 20000 bytes is not taken, what does not is, whatever was not taken ahead of it.
func TestFeedLimit(t *testing.T) {
	f := feed.New()
	for _, x := range []struct {
		size  int
		err   api.Errno
		count int
	}{
		{20001, api.ErrLimit, 0},
		{0, api.OK, 0},
		{1000000, api.ErrLimit, 0},
		{12345, api.OK, 12345},
		{7656, api.ErrLimit, 12345},
		{20000, api.ErrLimit, 12345},
		{7654, api.OK, 19999},
		{2, api.ErrLimit, 19999},
		{0, api.OK, 19999},
		{1, api.OK, 20000},
		{1, api.ErrLimit, 20000},
		{0, api.OK, 20000},
		{20000, api.ErrLimit, 20000},
	} {
		sign := "a"
		if x.err != api.OK {
			sign = "b"
		}
		if err := f.Feed([]byte(strings.Repeat(sign, x.size))); err != x.err || f.Count() != x.count {
			t.Errorf("P15.2: Feed of %d bytes: %d, Count %d, not %d, %d", x.size, err, f.Count(), x.err, x.count)
		}
	}
	if d := tell(f.End()); !same(d, told{tokens: list(text(strings.Repeat("a", 20000)))}) {
		t.Errorf("P15.2: what was not taken plays a part: %d tokens, %d", len(d.tokens), d.err)
	}
	for range 3 { // the limit begins anew, too
		if d := feedParts(t, f, strings.Repeat("c", 20000), 1, 10000); !same(d, told{tokens: list(text(strings.Repeat("c", 20000)))}) {
			t.Errorf("P15.2: of 20000 bytes: %d tokens, %d", len(d.tokens), d.err)
		}
	}
}

// P15.2: what is not taken is not taken in part either, and parts nothing.
func TestNotTakenParts(t *testing.T) {
	for _, long := range []string{strings.Repeat("\xa4", 20001), "\xa4" + strings.Repeat("a", 20000), ">" + strings.Repeat("<b>", 7000)} {
		f := feed.New()
		for _, part := range []string{"<a", "\xc3", "\xa4", ">\xe2\x82", "\xac"} {
			if err := f.Feed([]byte(long)); err != api.ErrLimit {
				t.Errorf("P15.2: Feed of %d bytes: %d", len(long), err)
			}
			if err := f.Feed([]byte(part)); err != api.OK {
				t.Errorf("P15.2: Feed(%q): %d", part, err)
			}
		}
		if d := tell(f.End()); f.Count() != 0 || !same(d, told{tokens: list(start("aä"), text("€"))}) {
			t.Errorf("P15.2: %+v", d)
		}
	}
}

// P15.2: bytes are counted, not what they are told as; a text too long is told of at the end alone, and then it begins anew.
func TestLongText(t *testing.T) {
	f := feed.New()
	for _, x := range []row{
		{strings.Repeat("\xff", 6666), told{tokens: list(text(strings.Repeat(odd, 6666)))}},
		{strings.Repeat("\xff", 6667), over},
		{strings.Repeat("\xff", 20000), over},
		{strings.Repeat("a", 19997) + "\xc3", told{tokens: list(text(strings.Repeat("a", 19997) + odd))}},
		{strings.Repeat("a", 19998) + "\xc3", over},
		{strings.Repeat("a", 19998) + "\xc3\xa4", told{tokens: list(text(strings.Repeat("a", 19998) + "ä"))}},
		{strings.Repeat("\xe2\x82", 10000), over},
		{"ab", told{tokens: list(text("ab"))}},
	} {
		size := len(x.document)
		for _, cuts := range [][]int{nil, {size - 1}, {0, 1, size / 2}} {
			if d := feedParts(t, f, x.document, cuts...); !same(d, x.want) {
				t.Errorf("P15.2: of %d bytes, cut at %v: %d tokens, %v, %d", size, cuts, len(d.tokens), d.fails, d.err)
			}
		}
	}
}

// P15.2: Count is asked at any time, and changes nothing.
func TestCount(t *testing.T) {
	f, count := feed.New(), 0
	for _, part := range []string{"", "<a", "\xc3", "\xa4", "", ">", "\xff\xff", "&l", "t;"} {
		f.Feed([]byte(part))
		count += len(part)
		for range 3 {
			if n := f.Count(); n != count {
				t.Errorf("P15.2: Count behind %q: %d, not %d", part, n, count)
			}
		}
	}
	if d := tell(f.End()); !same(d, told{tokens: list(start("aä"), text(odd+odd+"<"))}) {
		t.Errorf("P15.2: %+v", d)
	}
	if n := f.Count(); n != 0 {
		t.Errorf("P15.2: Count behind End: %d", n)
	}
}

// P15.2: nothing of a document is left behind its End, not even a byte that one of the next could have made a code point of.
func TestBeginsAnew(t *testing.T) {
	f := feed.New()
	if d := tell(f.End()); !same(d, told{}) {
		t.Errorf("P15.2: End of nothing: %+v", d)
	}
	for _, x := range []row{
		{"a\xc3", told{tokens: list(text("a" + odd))}},
		{"\xa4", told{tokens: list(text(odd))}},
		{"\xf0\x9f\x98", told{tokens: list(text(odd + odd + odd))}},
		{"\x80", told{tokens: list(text(odd))}},
		{"<script", told{nil, fail(api.ErrTokenCut, 0), api.OK}},
		{">a", told{tokens: list(text(">a"))}},
		{"<script>", told{list(start("script")), fail(api.ErrTokenCut, 8), api.OK}},
		{"<b>", told{tokens: list(start("b"))}},
		{"<!--", told{list(comment("")), fail(api.ErrTokenCut, 0), api.OK}},
		{"-->&l", told{tokens: list(text("-->&l"))}},
		{"t;", told{tokens: list(text("t;"))}},
	} {
		if d := feedParts(t, f, x.document); !same(d, x.want) {
			t.Errorf("P15.2: of %q: %+v, not %+v", x.document, d, x.want)
		}
		for range 2 {
			if d := tell(f.End()); !same(d, told{}) {
				t.Errorf("P15.2: a further End behind %q: %+v", x.document, d)
			}
		}
	}
}

// P15.3, T3: one Feeder tells of each document the same, in whatever parts it comes, empty ones among them.
func TestParts(t *testing.T) {
	f := feed.New()
	for _, r := range rows {
		s, single := r.document, []int{}
		for a := range len(s) + 1 {
			single = append(single, a, a)
			for b := a; b <= len(s); b++ {
				if d := feedParts(t, f, s, a, b); !same(d, r.want) {
					t.Errorf("P15.3: %q, cut at %d, %d: %+v, not %+v", s, a, b, d, r.want)
				}
			}
		}
		if d := feedParts(t, f, s, single...); !same(d, r.want) {
			t.Errorf("P15.3: %q, byte by byte: %+v, not %+v", s, d, r.want)
		}
	}
}

// P15.1 to P15.3: each byte, and pairs of those at which code points begin and end, where they may change something; cut at each place.
func TestBytes(t *testing.T) {
	f := feed.New()
	check := func(s string) {
		want := tell(modelWhole([]byte(s)))
		if d := tell(feed.Whole([]byte(s))); !same(d, want) {
			t.Fatalf("P15.1: Whole(%q): %+v, not %+v", s, d, want)
		}
		for cut := range len(s) + 1 {
			if d := feedParts(t, f, s, cut); !same(d, want) {
				t.Fatalf("P15.3: %q, cut at %d: %+v, not %+v", s, cut, d, want)
			}
		}
	}
	edges := strings.Split("<>a&/\x00\x7f\x80\x8f\x90\x9f\xa0\xbf\xc0\xc2\xdf\xe0\xe2\xed\xef\xf0\xf4\xf5\xff", "")
	for _, place := range [][2]string{{"", ""}, {"a", "b"}, {"<", ">"}, {"<a", ">"}, {"<a b='", "'>"}, {"<script>", "</script>"}, {"<title>", "</title>"}, {"<!--", "-->"}, {"\xe2", "\xac"}, {"\xf0\x9f", ""}, {"&#", ";"}} {
		for b := range 256 {
			check(place[0] + string([]byte{byte(b)}) + place[1])
		}
		for count := range 3 {
			eachRow(edges, count, func(s string) { check(place[0] + s + place[1]) })
		}
	}
}

// P15.1 to P15.3: all rows of a few pieces, each piece being a part.
func TestRows(t *testing.T) {
	pieces := []string{"", "<", ">", "a", "\xc3", "\xa4", "\xe2\x82", "\xff", "<script>", "</script", " ", "&lt", ";", "<!--", "--", "'"}
	for count := range 5 {
		var feedRow func(f *feed.Feeder, parts []string)
		feedRow = func(f *feed.Feeder, parts []string) {
			if len(parts) < count {
				for _, piece := range pieces {
					feedRow(f, append(parts, piece))
				}
				return
			}
			for _, part := range parts {
				f.Feed([]byte(part))
			}
			all := strings.Join(parts, "")
			if n := f.Count(); n != len(all) {
				t.Fatalf("P15.2: Count behind %q: %d", parts, n)
			}
			if d, want := tell(f.End()), tell(modelWhole([]byte(all))); !same(d, want) {
				t.Fatalf("P15.3: of %q: %+v, not %+v", parts, d, want)
			}
		}
		feedRow(feed.New(), nil)
	}
}

// P15.1 to P15.3: long rows of calls of all kinds, with parts of all sizes; which ones, is always the same.
func TestLongRows(t *testing.T) {
	pieces := []string{"<", ">", "a", " b=", "'", "ä", "€", "😀", "\xc3", "\xa4", "\xe2\x82", "\xf0\x9f", "\xff", "&lt;", "&#0;", "<script>", "</script>", "<title>", "</title>", "<!--", "-->", "<p q=r>", "</p>"}
	r := rand.New(rand.NewPCG(15, 1))
	f, m := feed.New(), &modelFeeder{}
	for step := range 60000 {
		if r.IntN(20) == 0 {
			if d, want := tell(f.End()), tell(m.end()); !same(d, want) {
				t.Fatalf("P15.2: End, step %d: %+v, not %+v", step, d, want)
			}
		}
		part := pieces[r.IntN(len(pieces))]
		switch r.IntN(40) {
		case 0:
			part = strings.Repeat(part, r.IntN(8000))
		case 1:
			part = part[:r.IntN(len(part)+1)]
		}
		err, want := f.Feed([]byte(part)), m.feed([]byte(part))
		if n := f.Count(); err != want || n != m.count() {
			t.Fatalf("P15.2: Feed of %d bytes, step %d: %d, Count %d, not %d, %d", len(part), step, err, n, want, m.count())
		}
	}
}

// P15.3, T3: a long document that comes byte by byte is told as it is told as a whole.
func TestByteByByte(t *testing.T) {
	const piece = "<p q='ä€\xff'>😀\xc3&lt;<script>a<b</script></p><!--\xe2\x82-->"
	s, single := strings.Repeat(piece, 15000/len(piece)), []int{}
	for at := range len(s) {
		single = append(single, at)
	}
	want := tell(modelWhole([]byte(s)))
	if len(want.tokens) == 0 || want.err != api.OK {
		t.Fatalf("the model tells %d tokens, %d", len(want.tokens), want.err)
	}
	if d := feedParts(t, feed.New(), s, single...); !same(d, want) {
		t.Errorf("P15.3: %d tokens, %v, %d, not %d", len(d.tokens), d.fails, d.err, len(want.tokens))
	}
	if d := tell(feed.Whole([]byte(s))); !same(d, want) {
		t.Errorf("P15.1: %d tokens, %v, %d, not %d", len(d.tokens), d.fails, d.err, len(want.tokens))
	}
}

// P15.2, R2: one Feeder knows nothing of another one, nor of what is told of a whole between.
func TestFeedersApart(t *testing.T) {
	f, g := feed.New(), feed.New()
	if f == nil || g == nil || f == g {
		t.Fatalf("P15.2: New does not answer a Feeder of its own")
	}
	for at := range 6 {
		f.Feed([]byte("<b>\xe2\x82\xac"[at : at+1]))
		g.Feed([]byte("\xc3\xa4</c>"[at : at+1]))
		feed.Whole([]byte("\xff<d"))
		if f.Count() != at+1 || g.Count() != at+1 {
			t.Errorf("P15.2: Count %d and %d, not %d", f.Count(), g.Count(), at+1)
		}
	}
	if d := tell(f.End()); !same(d, told{tokens: list(start("b"), text("€"))}) {
		t.Errorf("P15.2: %+v", d)
	}
	if n := g.Count(); n != 6 {
		t.Errorf("P15.2: Count behind another one's End: %d", n)
	}
	if d := tell(g.End()); !same(d, told{tokens: list(text("ä"), end("c"))}) {
		t.Errorf("P15.2: %+v", d)
	}
}

// R1, R2: a Feeder that New has not made is as a new one; a copy of one goes on by itself.
func TestPlainFeeder(t *testing.T) {
	var f feed.Feeder
	if f.Count() != 0 || !same(tell(f.End()), told{}) {
		t.Errorf("R1: of a plain Feeder: Count %d", f.Count())
	}
	for _, part := range []string{"a", "b", "c", "\xe2"} {
		f.Feed([]byte(part))
	}
	g := f
	f.Feed([]byte("\x82\xac"))
	g.Feed([]byte("d"))
	if d := tell(f.End()); !same(d, told{tokens: list(text("abc€"))}) {
		t.Errorf("R1: of a plain Feeder: %+v", d)
	}
	if n := g.Count(); n != 5 {
		t.Errorf("R2: of a copy: Count %d", n)
	}
	if d := tell(g.End()); !same(d, told{tokens: list(text("abc" + odd + "d"))}) {
		t.Errorf("R2: of a copy: %+v", d)
	}
}

// R2: what is handed in stays as it is, and is not kept.
func TestHandedIn(t *testing.T) {
	f := feed.New()
	for _, part := range []string{"<a", "\xc3", "\xa4>\xff", "b\xe2\x82"} {
		b := append(make([]byte, 0, 100), part...)
		if f.Feed(b); string(b) != part || string(b[:100][len(b):]) != strings.Repeat("\x00", 100-len(b)) {
			t.Errorf("R2: Feed left %q", b)
		}
		for at := range b {
			b[at] = 'x'
		}
	}
	want := told{tokens: list(start("aä"), text(odd+"b"+odd+odd))}
	if d := tell(f.End()); !same(d, want) {
		t.Errorf("R2: a Feeder kept what it was handed: %+v", d)
	}
	b := []byte("<a\xc3\xa4>\xffb\xe2\x82")
	d := tell(feed.Whole(b))
	if string(b) != "<a\xc3\xa4>\xffb\xe2\x82" {
		t.Errorf("R2: Whole left %q", b)
	}
	clear(b)
	if !same(d, want) {
		t.Errorf("R2: what was told is now %+v", d)
	}
}

// R2: lists that come out are new, however often the same is asked.
func TestNewLists(t *testing.T) {
	const s = "<a b=1 c=2><d e=3>&#0;"
	want := told{list(start("a", "b", "1", "c", "2"), start("d", "e", "3"), text(odd)), fail(api.ErrEntityForm, 18), api.OK}
	f, g := feed.New(), feed.New()
	answers := []told{feedParts(t, f, s), feedParts(t, f, s, 3), feedParts(t, g, s), tell(feed.Whole([]byte(s))), tell(feed.Whole([]byte(s)))}
	for at, d := range answers {
		if !same(d, want) {
			t.Errorf("R2: answer %d shares memory with one ahead of it: %+v", at, d)
		}
		for _, token := range d.tokens {
			clear(token.Attrs[:cap(token.Attrs)])
		}
		clear(d.tokens[:cap(d.tokens)])
		clear(d.fails[:cap(d.fails)])
	}
	if d := feedParts(t, f, s); !same(d, want) {
		t.Errorf("R2: a later answer shares memory: %+v", d)
	}
}

// P15.2, R3: a Feeder that is none.
func TestNoFeeder(t *testing.T) {
	var f *feed.Feeder
	for _, b := range [][]byte{nil, {}, []byte("a"), []byte("\xc3"), make([]byte, 20000), make([]byte, 20001)} {
		if err := f.Feed(b); err != api.ErrNil {
			t.Errorf("R3: Feed of %d bytes to no Feeder: %d", len(b), err)
		}
		if n := f.Count(); n != 0 {
			t.Errorf("P15.2: Count of no Feeder: %d", n)
		}
		if d := tell(f.End()); !same(d, told{err: api.ErrNil}) {
			t.Errorf("R3: End of no Feeder: %+v", d)
		}
	}
}
