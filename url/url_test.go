package url_test

import (
	"math"
	"strconv"
	"strings"
	"testing"

	"pounce/api"
	"pounce/url"
)

// ranked answers an address that is not opaque.
func ranked(scheme, host string, port int, path, query string) api.URL {
	return api.URL{Scheme: scheme, Host: host, Port: port, Path: path, Query: query}
}

// opaque answers one that is.
func opaque(scheme, path string) api.URL {
	return api.URL{Opaque: true, Scheme: scheme, Path: path}
}

// checkRight says by Check and Print whether an address is right, and what its text is.
func checkRight(t *testing.T, u api.URL, right bool) {
	t.Helper()
	want, text := api.ErrUrlForm, ""
	if right {
		want, text = api.OK, modelText(u)
	}
	if e := url.Check(u); e != want {
		t.Errorf("P5.2: Check(%+v): %d, not %d", u, e, want)
	}
	if s, e := url.Print(u); s != text || e != want {
		t.Errorf("P5.2: Print(%+v): %q, %d, not %q, %d", u, s, e, text, want)
	}
	if !right {
		return
	}
	if back, e := url.Parse(text); back != u || e != api.OK {
		t.Errorf("P5.4: Parse(%q): %+v, %d, not %+v", text, back, e, u)
	}
}

// checkParse holds what is parsed against the model, and against its own text.
func checkParse(t *testing.T, s string) bool {
	t.Helper()
	u, e := url.Parse(s)
	want, wanted := modelParse(s)
	if u != want || e != wanted {
		t.Errorf("P5.3: Parse(%q): %+v, %d, not %+v, %d", s, u, e, want, wanted)
	}
	if e == api.OK {
		checkRight(t, u, true)
	}
	return e == api.OK
}

// P5.1: the ranked schemes, and texts that are near them.
func TestDefault(t *testing.T) {
	for scheme, port := range map[string]int{
		"http": 80, "https": 443, "ws": 80, "wss": 443,
		"": 0, "HTTP": 0, "Https": 0, "WS": 0, "wSs": 0, "http:": 0, " http": 0, "http ": 0, "http\x00": 0,
		"htt": 0, "httpss": 0, "w": 0, "wsss": 0, "ftp": 0, "data": 0, "javascript": 0, "file": 0, "80": 0, "\xff": 0,
	} {
		if p := url.Default(scheme); p != port {
			t.Errorf("P5.1: Default(%q): %d, not %d", scheme, p, port)
		}
	}
}

// P5.1: paths written out by hand.
func TestClean(t *testing.T) {
	for _, x := range [][2]string{
		{"/", "/"},
		{"/x/./y/../z", "/x/z"},
		{"/a/b", "/a/b"},
		{"/a/b/", "/a/b/"},
		{"/.", "/"}, {"/..", "/"}, {"/./", "/"}, {"/../", "/"},
		{"/a/.", "/a/"}, {"/a/..", "/"}, {"/a/./", "/a/"}, {"/a/../", "/"},
		{"/a/b/.", "/a/b/"}, {"/a/b/..", "/a/"}, {"/a/b/../..", "/"}, {"/a/b/../../..", "/"},
		{"/../a", "/a"}, {"/../../a", "/a"}, {"/a/../../b", "/b"}, {"/./../a", "/a"},
		{"//", "//"}, {"//a", "//a"}, {"/a//b", "/a//b"}, // an empty piece is one as others are
		{"//..", "/"}, {"/a//..", "/a/"}, {"/a//../b", "/a/b"}, {"//../a", "/a"}, {"//.", "//"},
		{"/...", "/..."}, {"/.../..", "/"}, {"/.a", "/.a"}, {"/a.", "/a."}, {"/..a", "/..a"}, {"/a..", "/a.."},
		{"/%2e", "/%2e"}, {"/%2e%2e/a", "/%2e%2e/a"}, {"/. ", "/. "}, {"/ ./a", "/ ./a"},
		{"/a?b/../c#d", "/c#d"}, {"/a/..?b", "/a/..?b"}, // bytes that are none of a path's are as others are
		{"/\xff/../\x00Ä", "/\x00Ä"}, {"/A/./a", "/A/a"}, {`/a\..\b`, `/a\..\b`},
		{"", ""}, {"a", ""}, {".", ""}, {"..", ""}, {"a/b", ""}, {"../a", ""}, {"./", ""}, {" /a", ""}, {"?/", ""}, {"\xff/", ""}, {`\a`, ""},
	} {
		if s := url.Clean(x[0]); s != x[1] {
			t.Errorf("P5.1: Clean(%q): %q, not %q", x[0], s, x[1])
		}
	}
}

// P5.1, P5.2, P5.4: all short paths, against the model.
func TestCleanAgainstModel(t *testing.T) {
	eachUpTo("/.a?\xff", 8, func(path string) {
		s := url.Clean(path)
		if s != modelClean(path) {
			t.Fatalf("P5.1: Clean(%q): %q, not %q", path, s, modelClean(path))
		}
		if again := url.Clean(s); again != s {
			t.Fatalf("P5.4: Clean(%q): %q", s, again)
		}
		u := ranked("ws", "h", 0, path, "")
		if e := url.Check(u); (e == api.OK) != modelIsClean(path) {
			t.Fatalf("P5.2: Check(%+v): %d", u, e)
		}
	})
}

// P5.2: addresses that are right, and their texts.
func TestPrint(t *testing.T) {
	for text, u := range map[string]api.URL{
		"http://a.b/x/z?q":               ranked("http", "a.b", 0, "/x/z", "?q"),
		"https://a:444/":                 ranked("https", "a", 444, "/", ""),
		"https://a/":                     ranked("https", "a", 0, "/", ""),
		"http://a:443/":                  ranked("http", "a", 443, "/", ""), // another scheme's port
		"wss://a:80/?":                   ranked("wss", "a", 80, "/", "?"),
		"ws://0-.-9:65535//??/../.?":     ranked("ws", "0-.-9", 65535, "//", "??/../.?"),
		"ws://127.0.0.1:1/~!$&'()*,;=:@": ranked("ws", "127.0.0.1", 1, "/~!$&'()*,;=:@", ""),
		"http://-/.../%2E/A\\B":          ranked("http", "-", 0, "/.../%2E/A\\B", ""),
		"javascript:f()":                 opaque("javascript", "f()"),
		"data:":                          opaque("data", ""),
		"a://b/../c?d":                   opaque("a", "//b/../c?d"),
		"z9+-.:a b~::":                   opaque("z9+-.", "a b~::"),
		"httpx:/":                        opaque("httpx", "/"),
	} {
		checkRight(t, u, true)
		if s, e := url.Print(u); s != text || e != api.OK {
			t.Errorf("P5.2: Print(%+v): %q, %d, not %q", u, s, e, text)
		}
	}
}

// P5.2: addresses that are not right, each by one of its parts.
func TestCheckWrong(t *testing.T) {
	for _, u := range []api.URL{
		{},
		{Opaque: true},
		ranked("", "a", 0, "/", ""),
		ranked("HTTP", "a", 0, "/", ""),
		ranked("http:", "a", 0, "/", ""),
		ranked("ftp", "a", 0, "/", ""),
		ranked("ftp", "a", 21, "/", ""),
		ranked("", "a", 81, "/", ""),
		ranked("HTTP", "a", 81, "/", ""),
		ranked("data", "a", 1, "/", ""),
		ranked("javascript", "", 0, "f()", ""),
		ranked("http", "", 0, "/", ""),
		ranked("http", "A", 0, "/", ""),
		ranked("http", ".", 0, "/", ""),
		ranked("http", ".a", 0, "/", ""),
		ranked("http", "a.", 0, "/", ""),
		ranked("http", "a..b", 0, "/", ""),
		ranked("http", "a_b", 0, "/", ""),
		ranked("http", "a:1", 0, "/", ""),
		ranked("http", "[1]", 0, "/", ""),
		ranked("http", "u@a", 0, "/", ""),
		ranked("http", "a/", 0, "/", ""),
		ranked("http", "a ", 0, "/", ""),
		ranked("http", "ä", 0, "/", ""),
		ranked("http", "*", 0, "/", ""),
		ranked("http", "a", 0, "", ""),
		ranked("http", "a", 0, "", "?q"),
		ranked("http", "a", 0, "b", ""),
		ranked("http", "a", 0, "/.", ""),
		ranked("http", "a", 0, "/..", ""),
		ranked("http", "a", 0, "/./b", ""),
		ranked("http", "a", 0, "/b/../c", ""),
		ranked("http", "a", 0, "/b c", ""),
		ranked("http", "a", 0, "/b ", ""),
		ranked("http", "a", 0, "/?q", ""),
		ranked("http", "a", 0, "/#f", ""),
		ranked("http", "a", 0, "/ä", ""),
		ranked("http", "a", 0, "/\x7f", ""),
		ranked("http", "a", 0, "/", "q"),
		ranked("http", "a", 0, "/", "q?"),
		ranked("http", "a", 0, "/", "/"),
		ranked("http", "a", 0, "/", "?a b"),
		ranked("http", "a", 0, "/", "?a#b"),
		ranked("http", "a", 0, "/", "#"),
		ranked("http", "a", 0, "/", "?\xff"),
		ranked("http", "a", 0, "/", " "),
		opaque("", ""),
		opaque("", "a"),
		opaque("http", "a"),
		opaque("https", ""),
		opaque("ws", "//a/"),
		opaque("wss", "a"),
		opaque("Data", "a"),
		opaque("1a", "b"),
		opaque("+", "b"),
		opaque(".a", "b"),
		opaque("-a", "b"),
		opaque("a_b", "c"),
		opaque("a:", "c"),
		opaque("a b", "c"),
		opaque("ä", "c"),
		opaque("a", " b"),
		opaque("a", "b "),
		opaque("a", " "),
		opaque("a", "b#"),
		opaque("a", "b\tc"),
		opaque("a", "b\n"),
		opaque("a", "ä"),
		opaque("a", "\x7f"),
		{Opaque: true, Scheme: "a", Host: "h", Path: "b"},
		{Opaque: true, Scheme: "a", Query: "?", Path: "b"},
		{Opaque: true, Scheme: "a", Port: 1, Path: "b"},
		{Opaque: true, Scheme: "a", Port: -1, Path: "b"},
		{Opaque: true, Scheme: "http", Host: "a", Path: "/"},
	} {
		checkRight(t, u, false)
	}
}

// P5.2, P5.4: each byte, in each place of an address, alone and among others.
func TestEachByte(t *testing.T) {
	places := []func(s string) api.URL{
		func(s string) api.URL { return ranked("http", "h"+s+"h", 81, "/", "?") },
		func(s string) api.URL { return ranked("http", s, 0, "/", "") },
		func(s string) api.URL { return ranked("http", "h", 0, "/p"+s+"p", "") },
		func(s string) api.URL { return ranked("http", "h", 0, s, "") },
		func(s string) api.URL { return ranked("http", "h", 0, "/"+s, "?"+s) },
		func(s string) api.URL { return ranked("http", "h", 0, "/", "?q"+s+"q") },
		func(s string) api.URL { return ranked("http", "h", 0, "/", s) },
		func(s string) api.URL { return ranked("http"+s, "h", 0, "/", "") },
		func(s string) api.URL { return ranked("w"+s, "h", 81, "/", "") },
		func(s string) api.URL { return opaque(s, "p") },
		func(s string) api.URL { return opaque("s"+s, "p") },
		func(s string) api.URL { return opaque("s"+s+"s", "") },
		func(s string) api.URL { return opaque("s", s) },
		func(s string) api.URL { return opaque("s", s+"p") },
		func(s string) api.URL { return opaque("s", "p"+s) },
		func(s string) api.URL { return opaque("s", "p"+s+"p") },
		func(s string) api.URL { return api.URL{Opaque: true, Scheme: "s", Host: s} },
		func(s string) api.URL { return api.URL{Opaque: true, Scheme: "s", Query: s} },
	}
	for n := range 256 {
		c := string([]byte{byte(n)})
		for _, place := range places {
			checkRight(t, place(c), modelRight(place(c)))
			checkRight(t, place(c+c), modelRight(place(c+c)))
		}
	}
}

// P5.2, R4: ports, under each scheme.
func TestPorts(t *testing.T) {
	for scheme, own := range modelPorts {
		for _, port := range []int{0, 1, 79, 80, 81, 442, 443, 444, 8080, 65534, 65535} {
			checkRight(t, ranked(scheme, "a", port, "/", ""), port != own)
		}
		for _, port := range []int{-1, -80, -443, 65536, 65616, 99999, math.MaxInt32, math.MinInt32, math.MaxInt, math.MinInt, 1<<32 + 80} {
			checkRight(t, ranked(scheme, "a", port, "/", ""), false)
		}
	}
}

// P5.2: the limits: a scheme's 20 bytes, a host's MaxHost, a text's MaxUrl, with each part that fills it.
func TestLimits(t *testing.T) {
	s := strings.Repeat("s", 600)
	for size := range 30 {
		checkRight(t, opaque(s[:size], "p"), 1 <= size && size <= 20)
		checkRight(t, opaque(s[:size], ""), 1 <= size && size <= 20)
	}
	for size := range 150 {
		checkRight(t, ranked("http", s[:size], 0, "/", ""), 1 <= size && size <= api.MaxHost)
	}
	points := strings.Repeat("a.", 60)
	checkRight(t, ranked("http", points[:99], 0, "/", ""), true)
	checkRight(t, ranked("http", points[:101], 0, "/", ""), false)
	for size := 470; size < 510; size++ {
		p := s[:size]
		checkRight(t, opaque("ab", p), 3+size <= api.MaxUrl)
		checkRight(t, ranked("ws", "h", 0, "/"+p, ""), 7+size <= api.MaxUrl)
		checkRight(t, ranked("wss", "h", 12345, "/"+p, "?q"), 16+size <= api.MaxUrl)
		checkRight(t, ranked("https", "h.i", 1, "/", "?"+p), 15+size <= api.MaxUrl)
	}
}

// P5.3: the chapter's examples, and texts written out by hand.
func TestParse(t *testing.T) {
	for s, u := range map[string]api.URL{
		"HTTP://A.b:80/x/./y/../z?q#f": ranked("http", "a.b", 0, "/x/z", "?q"),
		"javascript: f()":              opaque("javascript", "f()"),
		"https://a:444":                ranked("https", "a", 444, "/", ""),
		"https://a":                    ranked("https", "a", 0, "/", ""),
		"https://a/":                   ranked("https", "a", 0, "/", ""),
		" \t\n\f\rwS://A/ \r\f\n\t":    ranked("ws", "a", 0, "/", ""),
		"wSS://A-9:443":                ranked("wss", "a-9", 0, "/", ""),
		"wss://a:80":                   ranked("wss", "a", 80, "/", ""),
		"http://a:0":                   ranked("http", "a", 0, "/", ""),
		"http://a:00000/b":             ranked("http", "a", 0, "/b", ""),
		"http://a:00080/b":             ranked("http", "a", 0, "/b", ""),
		"http://a:00443/b":             ranked("http", "a", 443, "/b", ""),
		"http://a:65535":               ranked("http", "a", 65535, "/", ""),
		"http://a?":                    ranked("http", "a", 0, "/", "?"),
		"http://a?b/../c":              ranked("http", "a", 0, "/", "?b/../c"), // a query is not cleaned
		"http://a:81?/b?c":             ranked("http", "a", 81, "/", "?/b?c"),
		"http://a#b?c/d":               ranked("http", "a", 0, "/", ""),
		"http://a/b#c#d":               ranked("http", "a", 0, "/b", ""),
		"http://a/b?c#d e\xff":         ranked("http", "a", 0, "/b", "?c"),
		"http://a:81#":                 ranked("http", "a", 81, "/", ""),
		"http://a//b":                  ranked("http", "a", 0, "//b", ""),
		"http://a/..":                  ranked("http", "a", 0, "/", ""),
		"http://a/b/..?":               ranked("http", "a", 0, "/", "?"),
		"http://a/b:80@c":              ranked("http", "a", 0, "/b:80@c", ""),
		"http://a/B?C":                 ranked("http", "a", 0, "/B", "?C"), // letters behind the host stay
		"http://a/\xff/../b":           ranked("http", "a", 0, "/b", ""),   // only what comes of it must be right
		"http://a/ b/..":               ranked("http", "a", 0, "/", ""),
		"JavaScript:\t\nF('A') \f":     opaque("javascript", "F('A')"),
		"javascript:a:b":               opaque("javascript", "a:b"),
		"javascript:#":                 opaque("javascript", ""),
		"data:":                        opaque("data", ""),
		"data: ":                       opaque("data", ""),
		"data:a #b":                    opaque("data", "a"), // trimmed again, behind :
		"data:a  b?c":                  opaque("data", "a  b?c"),
		"ftp://A/../B":                 opaque("ftp", "//A/../B"),
		"mailto:A@B":                   opaque("mailto", "A@B"),
		"a.b:80":                       opaque("a.b", "80"),
		"A+-.9:/":                      opaque("a+-.9", "/"),
	} {
		if v, e := url.Parse(s); v != u || e != api.OK {
			t.Errorf("P5.3: Parse(%q): %+v, %d, not %+v", s, v, e, u)
		}
		checkParse(t, s)
	}
}

// P5.3: texts that are none of an address, the chapter's examples among them.
func TestParseWrong(t *testing.T) {
	for _, s := range []string{
		"http:/a", "http://a..b/", "http://a:0x/", "1a:b",
		"", " ", "#", ":", "::", ":a", "a", "/", "//a", "?q", "//a:80", "a#:b", "#a:b",
		"http", "http:", "http:a", "http://", "http:///", "http:///a", "http://?", "http://#", "http:\\\\a", "http: //a", "http:/ /a",
		"http ://a", "ht tp://a", "data :a", "+a:b", ".:a", "-:a", "a_b:c", "ä:b", "\u212A:b", "\xff:b", "a\x00:b", "a/b:c", "a?b:c", "abcdefghijklmnopqrstu:b",
		"http://a:/", "http://a:", "http://a:/80", "http://a:?", "http://:80/", "http://:/", "http://a:b:80", "http://a:80:80", "http://a:80:",
		"http://a:65536", "http://a:99999", "http://a:000080", "http://a:123456", "http://a:+80", "http://a:-1", "http://a:8_0", "http://a: 8", "http://a: 80/", "http://a:80 /", "http://a:8.0",
		"http://a:18446744073709551696/", "http://a:\uff11/",
		"http://.a", "http://a.", "http://a./", "http://.", "http://..", "http://a..b", "http://a...b", "http://a_b", "http://a b", "http://a /", "http:// a/", "http://ä", "http://\u212A/", "http://%61", "http://[::1]/", "http://u@a", "http://u:p@a/", "http://*.a/", "http://a\\b/", "http://a\tb/", "http://\xff",
		"http://a/b c", "http://a/b #c", "http://a/\tb", "http://a/b\nc", "http://a/ä", "http://a/\x00", "http://a/\x7f", "http://a/\xff", "http://a/b\v",
		"http://a/?b c", "http://a?b #c", "http://a/?ä", "http://a/?\x7f", "http://a?\xff", "http://a?b\n#",
		"data:a\tb", "data:a\nb", "data:ä", "data:\x7f", "data:\xff", "data:\x00", "data:\va", "javascript:f()\n;g()",
		"\vdata:a", "\x00http://a", "\u00a0http://a/",
	} {
		if u, e := url.Parse(s); u != (api.URL{}) || e != api.ErrUrlForm {
			t.Errorf("P5.3: Parse(%q): %+v, %d", s, u, e)
		}
		checkParse(t, s)
	}
}

// P5.3: all numbers of a port that have up to five digits, as they are and with zeros ahead.
func TestParsePorts(t *testing.T) {
	for scheme, own := range modelPorts {
		for n := range 100000 {
			digits := strconv.Itoa(n)
			for _, port := range []string{digits, strings.Repeat("0", 5-len(digits)) + digits} {
				want, wanted := ranked(scheme, "a", n, "/", ""), api.OK
				if n == own {
					want.Port = 0
				}
				if n > 65535 {
					want, wanted = api.URL{}, api.ErrUrlForm
				}
				if u, e := url.Parse(scheme + "://a:" + port); u != want || e != wanted {
					t.Fatalf("P5.3: port %s of %s: %+v, %d", port, scheme, u, e)
				}
			}
		}
	}
}

// P5.3, P5.4: all short texts, alone and behind the begin of an address, against the model.
func TestParseAgainstModel(t *testing.T) {
	parsed := 0
	for begin, longest := range map[string]int{"": 6, "ws": 6, "Ws:": 5, "ws:/": 5, "ws://": 6, "ws://a": 6, "ws://a:8": 5, "ws://a/": 6, "ws://a?": 4, "a:": 5} {
		eachUpTo("a:/.?# 0", longest, func(s string) {
			if checkParse(t, begin+s) {
				parsed++
			}
			if t.Failed() {
				t.FailNow()
			}
		})
	}
	if parsed < 100000 {
		t.Errorf("P5.3: only %d texts are parsed", parsed)
	}
}

// P5.3, P5.4: addresses whose parts stand in lists, all with all, against the model.
func TestParseRows(t *testing.T) {
	parsed := 0
	eachRow([][]string{
		{"", "\t "},
		{"http", "HTTPS", "wss", "Javascript", "9", "ht tp", ""},
		{":", ""},
		{"//", "/", ""},
		{"a", "A.B-c", "a..b", ".a", "u@a", "\xff", ""},
		{":80", ":443", ":0", ":65536", ":8x", ":", ""},
		{"/x/./y/../z", "/..", "/\x7f", "/b c", ""},
		{"?q?/..", "?", "?\x80", ""},
		{"#f/?: ", ""},
		{"", "\n"},
	}, func(s string) {
		if checkParse(t, s) {
			parsed++
		}
		if t.Failed() {
			t.FailNow()
		}
	})
	if parsed < 5000 {
		t.Errorf("P5.3: only %d texts are parsed", parsed)
	}
}

// P5.3: each byte, at places of a text that is parsed.
func TestParseEachByte(t *testing.T) {
	for n := range 256 {
		c := string([]byte{byte(n)})
		for _, s := range []string{c, c + "a:b", "a" + c + ":b", "a:" + c, "a:" + c + "b", "a:b" + c, "a:b" + c + "c",
			c + "ws://a/", "ws" + c + "://a/", "ws:" + c + "/a/", "ws://" + c, "ws://a" + c, "ws://a" + c + "b/", "ws://a:" + c, "ws://a:8" + c, "ws://a:8" + c + "/",
			"ws://a/" + c, "ws://a/b" + c + "c", "ws://a/." + c + "/b", "ws://a?" + c, "ws://a?b" + c + "c", "ws://a/#" + c, "ws://a/" + c + "#", "ws://a/" + c + "/../b"} {
			checkParse(t, s)
		}
	}
}

// P5.3: the limits: it is the address' text that they bound, not the text that is parsed.
func TestParseLimits(t *testing.T) {
	long := strings.Repeat("x", 1000)
	for size := 1; size < 600; size++ {
		part := long[:size]
		for _, s := range []string{"data:" + part, "ws://a/" + part, "ws://a:9/?" + part, "ws://a" + part + "/", part + ":a", "ws://a:80/" + part, "ws://a?" + part} {
			checkParse(t, s)
		}
	}
	for s, u := range map[string]api.URL{
		"http://a/" + long + "/../b":                                              ranked("http", "a", 0, "/b", ""),
		"http://a/b#" + long:                                                      ranked("http", "a", 0, "/b", ""),
		"data:" + strings.Repeat(" ", 1000) + "b":                                 opaque("data", "b"),
		strings.Repeat("\n", 1000) + "http://a":                                   ranked("http", "a", 0, "/", ""),
		"http://a" + strings.Repeat("/.", 100000):                                 ranked("http", "a", 0, "/", ""),
		"http://a" + strings.Repeat("/b", 100000) + strings.Repeat("/..", 100000): ranked("http", "a", 0, "/", ""),
	} {
		if v, e := url.Parse(s); v != u || e != api.OK {
			t.Errorf("P5.3: a text of %d bytes: %+v, %d, not %+v", len(s), v, e, u)
		}
	}
}

// R1, R4: long texts in each place, and paths of many pieces.
func TestLong(t *testing.T) {
	long := strings.Repeat("a\xff/../.", 50000) + "\xff"
	for _, u := range []api.URL{ranked(long, "a", 0, "/", ""), ranked("ws", long, 0, "/", ""), ranked("ws", "a", 0, "/"+long, ""), ranked("ws", "a", 0, "/", "?"+long), opaque(long, ""), opaque("a", long), {Scheme: long, Host: long, Path: long, Query: long}} {
		checkRight(t, u, false)
	}
	for _, begin := range []string{"", "a:", "ws:", "ws://", "ws://a:", "ws://a/", "ws://a?"} {
		if u, e := url.Parse(begin + long); u != (api.URL{}) || e != api.ErrUrlForm {
			t.Errorf("P5.3: a long text behind %q: %d", begin, e)
		}
	}
	if s := url.Clean("/" + long); s != modelClean("/"+long) {
		t.Errorf("P5.1: a path of %d bytes is not cleaned as it should be", len(long)+1)
	}
}

// R2: what a call answers hangs on its argument alone, and stays as it was told.
func TestAgain(t *testing.T) {
	const s = "HTTP://A:81/b/../c?d#e"
	u, e := url.Parse(s)
	text, _ := url.Print(u)
	for _, other := range []string{"", "http:", "ws://b:9/x/./y", "data: z", "\xff", "https://a:0x"} {
		v, _ := url.Parse(other)
		url.Print(v)
		url.Check(v)
		url.Clean(other)
		url.Default(other)
	}
	again, eAgain := url.Parse(s)
	if u != ranked("http", "a", 81, "/c", "?d") || e != api.OK || again != u || eAgain != e || text != "http://a:81/c?d" {
		t.Errorf("R2: %+v, %d, and again %+v, %d", u, e, again, eAgain)
	}
}
