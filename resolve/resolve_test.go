package resolve_test

import (
	"math"
	"strings"
	"testing"

	"pounce/api"
	"pounce/resolve"
	"pounce/url"
)

// address answers what a text that must be right is parsed as.
func address(t *testing.T, text string) api.URL {
	t.Helper()
	u, e := url.Parse(text)
	if e != api.OK {
		t.Fatalf("%q is no address: %d", text, e)
	}
	return u
}

// bases answers right addresses that are not opaque, with and without each part that may be missing.
func bases(t *testing.T) []api.URL {
	t.Helper()
	list := []api.URL{}
	for _, text := range []string{"http://a:81/x/y?q", "https://a.b/", "ws://a:443/x//", "wss://a:1/x/y/?", "https://80:8/:80/#?", "http://a//x?/y?z/.."} {
		list = append(list, address(t, text))
	}
	return list
}

// wrongBases are addresses that are not right, or opaque.
var wrongBases = []api.URL{
	{},
	{Opaque: true, Scheme: "data", Path: "a"}, // right, but opaque
	{Opaque: true, Scheme: "javascript"},
	{Opaque: true, Scheme: "a", Path: "//a/b"},
	{Opaque: true, Scheme: "http", Host: "a", Path: "/"},
	{Opaque: true, Scheme: "http", Path: "/"},
	{Opaque: true},
	{Scheme: "http", Host: "a"},
	{Scheme: "http", Path: "/"},
	{Host: "a", Path: "/"},
	{Scheme: "ftp", Host: "a", Path: "/"},
	{Scheme: "HTTP", Host: "a", Path: "/"},
	{Scheme: "http", Host: "A", Path: "/"},
	{Scheme: "http", Host: "a..b", Path: "/"},
	{Scheme: "http", Host: "a", Port: 80, Path: "/"}, // its own port must be told as 0
	{Scheme: "http", Host: "a", Port: -1, Path: "/"},
	{Scheme: "http", Host: "a", Port: 65536, Path: "/"},
	{Scheme: "http", Host: "a", Port: math.MaxInt, Path: "/"},
	{Scheme: "http", Host: "a", Port: math.MinInt, Path: "/"},
	{Scheme: "http", Host: "a", Path: "x"},
	{Scheme: "http", Host: "a", Path: "/x/../y"}, // not clean
	{Scheme: "http", Host: "a", Path: "/x y"},
	{Scheme: "http", Host: "a", Path: "/\xff"},
	{Scheme: "http", Host: "a", Path: "/", Query: "q"},
	{Scheme: "http", Host: "a", Path: "/", Query: "?q r"},
	{Scheme: "http", Host: "a", Path: "/" + strings.Repeat("x", api.MaxUrl)},
}

// checkJoin holds what is joined against the model, and against what follows from the promises.
func checkJoin(t *testing.T, base api.URL, ref string) bool {
	t.Helper()
	u, e := resolve.Join(base, ref)
	want, wanted := modelJoin(base, ref)
	if u != want || e != wanted {
		t.Errorf("P6.2: Join(%+v, %.99q): %+v, %d, not %+v, %d", base, ref, u, e, want, wanted)
	}
	if e != api.OK {
		if u != (api.URL{}) {
			t.Errorf("R1: Join(%+v, %.99q): %+v with %d", base, ref, u, e)
		}
		return false
	}
	if url.Check(u) != api.OK {
		t.Errorf("P6.3: Join(%+v, %.99q): %+v is not right", base, ref, u)
	}
	if resolve.Kind(ref) >= 3 && (u.Opaque || u.Scheme != base.Scheme || u.Host != base.Host || u.Port != base.Port) {
		t.Errorf("P6.3: Join(%+v, %.99q): %+v", base, ref, u)
	}
	return true
}

// P6.1: texts of each kind, written out by hand; what several kinds would take is of the first of them.
func TestKind(t *testing.T) {
	for kind, refs := range [][]string{
		1: {"a:", "javascript:1", "http://a", "HTTP:", "http:x", "Z:", "a+-.9:", "z9:/b", "data:#", "data:?", "a::", "a:b:c", "a:/../\xff",
			" \t\n\f\ra:b ", "a.b:80", "abcdefghijklmnopqrst:", "ABCDEFGHIJKLMNOPQRST:x", "ws:", "wss:", "https:"},
		2: {"//", "//b/z", "///", "//:", "//a:80", "//?", "//#", " //", "//\xff", "\r\n//b", "// "},
		3: {"/", "/z", "/a:b", "/:", "/?", "/#", "/ /", " /", "/\\", "/.//", "/\xff", "/a//"},
		4: {"", "#", "#f", " ", "\t\n\f\r ", " #", "##", "#:", "#a:b", "#/", "#?", "#//a", "#\xff"},
		5: {"?", "?k", "?k:l", "?:", "?/", "?#", "?//a", " ?", "??", "?\xff"},
		6: {"z", "../z?k", ".", "..", ":", "::", ":a", ":80", "a", "a/b:c", "a?b:c", "a#b:c", "a//b", "\\", "\\/", "1a:b", "+a:b", ".:", "-:", "a_b:c", "a b:c", "a :b", "a\t:b", "9:", "%:",
			"abcdefghijklmnopqrstu:", "ABCDEFGHIJKLMNOPQRSTU:x", "http", "javascript", "ä:", "\u212A:", "\u017F:", "\xff:", "a\x00:", "\x00a:", "\va:", "\v", "\v//", "\v/", "\v#", "\v?", "\u00a0", "\u00a0#", "\xff", "\x00", "&", ";", "*"},
	} {
		for _, ref := range refs {
			if k := resolve.Kind(ref); k != kind {
				t.Errorf("P6.1: Kind(%q): %d, not %d", ref, k, kind)
			}
			if k := modelKind(ref); k != kind {
				t.Errorf("the model of P6.1: Kind(%q): %d, not %d", ref, k, kind)
			}
		}
	}
}

// P6.1: all short texts, against the model.
func TestKindAgainstModel(t *testing.T) {
	for _, ref := range texts("aZ9:/#? .\xff", 5) {
		if k := resolve.Kind(ref); k != modelKind(ref) {
			t.Fatalf("P6.1: Kind(%q): %d, not %d", ref, k, modelKind(ref))
		}
	}
}

// P6.1, P6.2: each byte, at places of a text, alone and among others.
func TestEachByte(t *testing.T) {
	for n := range 256 {
		c := string([]byte{byte(n)})
		for _, ref := range []string{c, c + c, c + "a:b", "a" + c + ":b", "a" + c + "b:c", "a" + c, "a:" + c, c + ":", c + "/", c + "//b", "/" + c, "/" + c + "b", "//" + c, "//b" + c, "//b/" + c,
			"#" + c, c + "#", "?" + c, c + "?", "?" + c + "#", "z" + c + "z", "z/" + c, "../" + c, "." + c + "/z", "z" + c + "#", c + "../z"} {
			if k := resolve.Kind(ref); k != modelKind(ref) {
				t.Errorf("P6.1: Kind(%q): %d, not %d", ref, k, modelKind(ref))
			}
			for _, base := range bases(t) {
				checkJoin(t, base, ref)
			}
		}
	}
}

// P6.1: a scheme's 20 bytes.
func TestKindLimits(t *testing.T) {
	for size := range 100 {
		want := 6
		if 1 <= size && size <= 20 {
			want = 1
		}
		for _, sign := range []string{"s", "S"} {
			if k := resolve.Kind(strings.Repeat(sign, size) + ":b"); k != want {
				t.Errorf("P6.1: Kind of a scheme of %d bytes: %d, not %d", size, k, want)
			}
		}
	}
}

// P6.2: the chapter's examples, and texts written out by hand.
func TestJoin(t *testing.T) {
	for base, rows := range map[string][][2]string{
		"http://a:81/x/y?q": {
			{"z", "http://a:81/x/z"}, {"../z?k", "http://a:81/z?k"}, {"/z", "http://a:81/z"},
			{"//b/z", "http://b/z"}, {"?k", "http://a:81/x/y?k"}, {"#f", "http://a:81/x/y?q"}, {"javascript:1", "javascript:1"},
			{"", "http://a:81/x/y?q"}, {" \r\n", "http://a:81/x/y?q"}, {"#", "http://a:81/x/y?q"}, {"#/../?k", "http://a:81/x/y?q"}, {"# \xff", "http://a:81/x/y?q"},
			{"?", "http://a:81/x/y?"}, {"??k/../l", "http://a:81/x/y??k/../l"}, {"?k#f?l", "http://a:81/x/y?k"}, {"?k:l", "http://a:81/x/y?k:l"},
			{"/", "http://a:81/"}, {"/?k", "http://a:81/?k"}, {"/#f", "http://a:81/"}, {"/..", "http://a:81/"}, {"/b/../c", "http://a:81/c"}, {"/b:c", "http://a:81/b:c"}, {"/.//b", "http://a:81//b"},
			{".", "http://a:81/x/"}, {"./", "http://a:81/x/"}, {"./z", "http://a:81/x/z"}, {"..", "http://a:81/"}, {"../", "http://a:81/"}, {"../../../z", "http://a:81/z"}, {"z/.", "http://a:81/x/z/"}, {"z/../w", "http://a:81/x/w"},
			{"z/w", "http://a:81/x/z/w"}, {"z/", "http://a:81/x/z/"}, {"z//w", "http://a:81/x/z//w"}, {"z?k#f", "http://a:81/x/z?k"}, {"z#f#g", "http://a:81/x/z"}, {"z?k?l/..", "http://a:81/x/z?k?l/.."},
			{"z#a:b", "http://a:81/x/z"}, {":", "http://a:81/x/:"}, {":82/z", "http://a:81/x/:82/z"}, {"1a:b", "http://a:81/x/1a:b"}, {"z/a:b", "http://a:81/x/z/a:b"}, {"@b", "http://a:81/x/@b"}, {"\\\\b", "http://a:81/x/\\\\b"},
			{"abcdefghijklmnopqrstu:v", "http://a:81/x/abcdefghijklmnopqrstu:v"}, // too long for a scheme
			{"Z", "http://a:81/x/Z"}, {"/Z?K", "http://a:81/Z?K"},
			{" z\t", "http://a:81/x/z"}, {"z #f", "http://a:81/x/z"}, {"? #f", "http://a:81/x/y?"}, {"/\n#f", "http://a:81/"}, {"//b/ #f", "http://b/"}, // a blank at the end of what is parsed does no harm
			{"\xff/../z", "http://a:81/x/z"}, // nor does a piece that is left out
			{"//B", "http://b/"}, {"//b:80/", "http://b/"}, {"//b:443", "http://b:443/"}, {"//b?k", "http://b/?k"}, {"//b#f", "http://b/"}, {"//b/../z", "http://b/z"}, {"//b//", "http://b//"},
			{"HTTPS://B:443", "https://b/"}, {" Data: A ", "data:A"}, {"data:", "data:"}, {"x:#f", "x:"}, {"z.w:80", "z.w:80"}, {"http://b", "http://b/"},
		},
		"wss://a.b/": {
			{"z", "wss://a.b/z"}, {"/z", "wss://a.b/z"}, {"..", "wss://a.b/"}, {".", "wss://a.b/"}, {"?", "wss://a.b/?"}, {"?k", "wss://a.b/?k"}, {"", "wss://a.b/"},
			{"//c:443", "wss://c/"}, {"//c:80", "wss://c:80/"}, {"//c:0", "wss://c/"}, {"z?", "wss://a.b/z?"},
		},
		"https://a/x/y/?q/z": { // a query's / is none of the path
			{"z", "https://a/x/y/z"}, {"../z", "https://a/x/z"}, {"?", "https://a/x/y/?"}, {"#", "https://a/x/y/?q/z"}, {"/", "https://a/"}, {".", "https://a/x/y/"},
		},
		"ws://a//x//?": {
			{"z", "ws://a//x//z"}, {"..", "ws://a//x/"}, {"../..", "ws://a//"}, {"../../..", "ws://a/"}, {"", "ws://a//x//?"}, {"?k", "ws://a//x//?k"},
		},
		"http://a//a?//a//a": { // texts that stand in it more than once
			{"z", "http://a//z"}, {"/z", "http://a/z"}, {"?k", "http://a//a?k"}, {"", "http://a//a?//a//a"}, {"//b", "http://b/"},
		},
	} {
		for _, row := range rows {
			u, e := resolve.Join(address(t, base), row[0])
			if text, _ := url.Print(u); e != api.OK || text != row[1] {
				t.Errorf("P6.2: Join(%s, %q): %q, %d, not %q", base, row[0], text, e, row[1])
			}
			checkJoin(t, address(t, base), row[0])
		}
	}
}

// P6.2: texts that make no address with any base.
func TestJoinWrong(t *testing.T) {
	for _, ref := range []string{
		"http:", "http:z", "http:/a", "https://a..b/", "HTTP://", "http://a:0x/", "data:\xff", "data:a\tb", "ws://a/b c", "x:" + strings.Repeat("y", api.MaxUrl),
		"//", "///", "///b", "//?", "//#", "//b_", "//b..c", "//.", "//b:", "//b:0x", "//b:65536", "//u@b", "//b /", "// b", "//b/ c", "//b?\xff", "//\xff",
		"/b c", "/\xff", "/\tz", "/\x7f", "/b?c d", "/?\n?", "/ ?", "/ /#",
		"?k l", "?\xff", "?\x00", "?\v", "? k", "?k\n?",
		"z w", "z\tw", "\xff", "\x7f", "ä", "\v", "z\x00", "a b:c", "a :b", "z?k l", "z ?k", "./ z", "z/\xff", "../\xff#",
		"z" + strings.Repeat("z", api.MaxUrl), "/" + strings.Repeat("z", api.MaxUrl), "?" + strings.Repeat("z", api.MaxUrl), "//b/" + strings.Repeat("z", api.MaxUrl),
	} {
		for _, base := range bases(t) {
			if u, e := resolve.Join(base, ref); u != (api.URL{}) || e != api.ErrUrlForm {
				t.Errorf("P6.2: Join(%+v, %q): %+v, %d", base, ref, u, e)
			}
			checkJoin(t, base, ref)
		}
	}
}

// P6.2: a base that is not right, or opaque, is asked for by all kinds but 1, whatever else is wrong.
func TestJoinWrongBase(t *testing.T) {
	for _, base := range wrongBases {
		for _, ref := range []string{"//b/z", "/z", "", "#f", " ", "?k", "z", "../z", ".", "//", "///", "/\xff", "?\xff", "\xff", "z w", "1a:b", ":", "a b:c", "//" + strings.Repeat("b", api.MaxUrl)} {
			if u, e := resolve.Join(base, ref); u != (api.URL{}) || e != api.ErrUrlBase {
				t.Errorf("P6.2: Join(%+v, %q): %+v, %d", base, ref, u, e)
			}
		}
		for ref, text := range map[string]string{"http://b:81/../z#f": "http://b:81/z", " Data: a": "data:a", "javascript:1": "javascript:1", "WSS://B:443?": "wss://b/?"} {
			if u, e := resolve.Join(base, ref); u != address(t, text) || e != api.OK {
				t.Errorf("P6.2: Join(%+v, %q): %+v, %d, not %s", base, ref, u, e, text)
			}
		}
		for _, ref := range []string{"http:", "http:z", "http:/a", "data:\xff", "ws://a..b"} {
			if u, e := resolve.Join(base, ref); u != (api.URL{}) || e != api.ErrUrlForm {
				t.Errorf("P6.2: Join(%+v, %q): %+v, %d", base, ref, u, e)
			}
		}
	}
}

// P6.2, P6.3: all short texts, joined to all bases, against the model.
func TestJoinAgainstModel(t *testing.T) {
	refs := texts("a:/.?# 8", 5)
	for _, base := range bases(t) {
		joined := 0
		for _, ref := range refs {
			if checkJoin(t, base, ref) {
				joined++
			}
			if t.Failed() {
				t.FailNow()
			}
		}
		if joined < len(refs)/2 {
			t.Errorf("P6.2: only %d of %d texts are joined to %+v", joined, len(refs), base)
		}
	}
}

// P6.3: an address' own text, joined to any base, is it; so is the text that is empty, joined to it.
func TestOwnText(t *testing.T) {
	own := bases(t)
	for _, text := range []string{"javascript:f()", "data:", "a://b/../c?d", "z9+-.:a b~::", "abcdefghijklmnopqrst:/", "http://a/", "ws://0-.-9:65535//??/../.?", "data:" + strings.Repeat("x", api.MaxUrl-5)} {
		own = append(own, address(t, text))
	}
	for _, u := range own {
		text, _ := url.Print(u)
		if k := resolve.Kind(text); k != 1 {
			t.Errorf("P6.3: Kind(%q): %d", text, k)
		}
		for _, base := range append(append(bases(t), own...), wrongBases...) {
			if v, e := resolve.Join(base, text); v != u || e != api.OK {
				t.Errorf("P6.3: Join(%+v, %q): %+v, %d", base, text, v, e)
			}
		}
		want, wanted := u, api.OK
		if u.Opaque {
			want, wanted = api.URL{}, api.ErrUrlBase
		}
		if v, e := resolve.Join(u, ""); v != want || e != wanted {
			t.Errorf("P6.2: Join(%+v, %q): %+v, %d", u, "", v, e)
		}
	}
}

// P6.2: the limit: it is the joined address' text that MaxUrl bounds, neither the text's own length nor how long both are together.
func TestJoinLimits(t *testing.T) {
	long := strings.Repeat("x", 600)
	for size := 400; size < 520; size++ {
		part := long[:size]
		for _, base := range bases(t) {
			for _, ref := range []string{part, "../" + part, "/" + part, "?" + part, "//b/" + part, "#" + part, "z?" + part, "x:" + part, part + "/../../z"} {
				checkJoin(t, base, ref)
			}
		}
		base := api.URL{Scheme: "ws", Host: "h", Path: "/" + part} // its text has size + 7 bytes
		for ref, u := range map[string]struct {
			text string
			size int
		}{"": {"ws://h/" + part, size + 7}, "?kl": {"ws://h/" + part + "?kl", size + 10}, "z": {"ws://h/z", 8}, "/": {"ws://h/", 7}} {
			want := api.OK
			if size+7 > api.MaxUrl {
				want = api.ErrUrlBase
			} else if u.size > api.MaxUrl {
				want = api.ErrUrlForm
			}
			v, e := resolve.Join(base, ref)
			if text, _ := url.Print(v); e != want || e == api.OK && text != u.text {
				t.Errorf("P6.2: %q joined to a text of %d bytes: %d, not %d", ref, size+7, e, want)
			}
		}
	}
}

// R1, R4: long texts of each kind, and in each part of a base.
func TestLong(t *testing.T) {
	long := strings.Repeat("a\xff/../:?#", 50000) + "\xff"
	for _, begin := range []string{"", "a:", "//", "//b/", "/", "#", "?", strings.Repeat(" ", 100000), strings.Repeat("z", 100000)} {
		if k := resolve.Kind(begin + long); k != modelKind(begin+long) {
			t.Errorf("P6.1: Kind of a long text behind %.5q: %d", begin, k)
		}
		for _, base := range bases(t) {
			checkJoin(t, base, begin+long)
		}
	}
	for _, base := range []api.URL{{Scheme: long}, {Scheme: "ws", Host: long, Path: "/"}, {Scheme: "ws", Host: "a", Path: "/" + long}, {Scheme: "ws", Host: "a", Path: "/", Query: "?" + long}, {Opaque: true, Scheme: "a", Path: long}} {
		if u, e := resolve.Join(base, "z"); u != (api.URL{}) || e != api.ErrUrlBase {
			t.Errorf("P6.2: a long base: %d", e)
		}
	}
	if u, e := resolve.Join(bases(t)[0], strings.Repeat("../b/", 100000)+"z"); u != address(t, "http://a:81/b/z") || e != api.OK {
		t.Errorf("P6.2: a path of many pieces: %+v, %d", u, e)
	}
}

// R2: what a call answers hangs on its arguments alone, and stays as it was told.
func TestAgain(t *testing.T) {
	base := address(t, "http://a:81/x/y?q")
	u, e := resolve.Join(base, "../z?k#f")
	for _, other := range append(bases(t), wrongBases...) {
		for _, ref := range []string{"", "//b", "/z", "?k", "w", "data:a", "\xff"} {
			resolve.Kind(ref)
			resolve.Join(other, ref)
		}
	}
	again, eAgain := resolve.Join(base, "../z?k#f")
	if u != address(t, "http://a:81/z?k") || e != api.OK || again != u || eAgain != e || base != address(t, "http://a:81/x/y?q") {
		t.Errorf("R2: %+v, %d, and again %+v, %d", u, e, again, eAgain)
	}
}
