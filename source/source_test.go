package source_test

import (
	"math"
	"slices"
	"strconv"
	"strings"
	"testing"

	"pounce/api"
	"pounce/source"
)

// hash is a mark's bytes, and code how they are told.
const (
	hash = "\x00\x01\x02\x03\x04\x05\x06\x07\x08\x09\x0a\x0b\x0c\x0d\x0e\xff"
	code = "AAECAwQFBgcICQoLDA0O/w=="
)

// host answers a source of a host; the places of any host and any port are told apart by wild.
func host(scheme, name string, port int, path string) api.Source {
	return api.Source{Kind: api.SourceHost, Scheme: scheme, Host: name, Port: port, Path: path}
}

func wild(scheme, name string, port int, path string) api.Source {
	s := host(scheme, name, port, path)
	s.Wild = true
	return s
}

func nonce(text string) api.Source { return api.Source{Kind: api.SourceNonce, Text: text} }

func mark(text string) api.Source { return api.Source{Kind: api.SourceHash, Text: text} }

func scheme(name string) api.Source { return api.Source{Kind: api.SourceScheme, Scheme: name} }

// keptWords are those of the chapter, in the order of their kinds.
var keptWords = []string{"'none'", "'self'", "'unsafe-inline'", "'unsafe-eval'", "'wasm-unsafe-eval'", "'strict-dynamic'", "'unsafe-hashes'", "'report-sample'"}

// checkParse holds what a word is read as against the model, and against what follows from the promises; it answers whether it is a source's.
func checkParse(t *testing.T, w string) bool {
	t.Helper()
	s, ok := source.Parse(w)
	if want, wanted := modelParse(w); s != want || ok != wanted {
		t.Fatalf("P9.2: Parse(%.999q): %+v, %t, not %+v, %t", w, s, ok, want, wanted)
	}
	if !ok {
		return false
	}
	word, right := source.Print(s)
	if !right {
		t.Fatalf("P9.3: of %.999q: %+v is not right", w, s)
	}
	if again, ok := source.Parse(word); again != s || !ok {
		t.Fatalf("P9.3: Parse(%q): %+v, %t, not %+v", word, again, ok, s)
	}
	return true
}

// checkPrint holds a source's word against the model; it is parsed as the source.
func checkPrint(t *testing.T, s api.Source) {
	t.Helper()
	word, ok := source.Print(s)
	if want, right := modelPrint(s); word != want || ok != right {
		t.Fatalf("P9.1: Print(%+v): %q, %t, not %q, %t", s, word, ok, want, right)
	}
	if again, parsed := source.Parse(word); ok && (again != s || !parsed) {
		t.Fatalf("P9.3: Parse(%q): %+v, %t, not %+v", word, again, parsed, s)
	}
}

// checkRight asks whether a source is right, by what is written down here, not by the model.
func checkRight(t *testing.T, s api.Source, right bool) {
	t.Helper()
	if word, ok := source.Print(s); ok != right || (word != "") != right {
		t.Errorf("P9.1: Print(%+v): %q, %t", s, word, ok)
	}
	checkPrint(t, s)
}

// P9.2: the chapter's examples, and words written out by hand.
func TestParse(t *testing.T) {
	for w, want := range map[string]api.Source{
		"'SELF'":                        {Kind: api.SourceSelf},
		"'nonce-aB1='":                  nonce("aB1="),
		"https:":                        scheme("https"),
		"HTTPS://*.A.b:*/x":             wild("https", "a.b", -1, "/x"),
		"*":                             wild("", "", 0, ""),
		"a:080":                         host("", "a", 80, ""),
		"'none'":                        {Kind: api.SourceNone},
		"'Unsafe-Inline'":               {Kind: api.SourceInline},
		"'unsafe-EVAL'":                 {Kind: api.SourceEval},
		"'Wasm-unsafe-eval'":            {Kind: api.SourceWasm},
		"'strict-Dynamic'":              {Kind: api.SourceStrict},
		"'unsafE-hashes'":               {Kind: api.SourceHashes},
		"'REPORT-SAMPLE'":               {Kind: api.SourceSample},
		"'NONCE-aB'":                    nonce("aB"), // a nonce's own letters stay as they are
		"'nOnCe-_-+/=='":                nonce("_-+/=="),
		"'nonce-A'":                     nonce("A"), // it needs the form, but is not decoded
		"'nonce-nonce-'":                nonce("nonce-"),
		"'mark-" + code + "'":           mark(hash),
		"'MARK-" + code + "'":           mark(hash),
		"'nonce-" + code + "'":          nonce(code),
		"'mark-AAECAwQFBgcICQoLDA0O_w'": mark(hash), // without =, and with the other sign
		"'mark-AAAAAAAAAAAAAAAAAAAAAA'": mark(strings.Repeat("\x00", 16)),
		"'mark-_-_-_-_-_-_-_-_-_-_-_w'": mark("\xff\xef\xfe\xff\xef\xfe\xff\xef\xfe\xff\xef\xfe\xff\xef\xfe\xff"),
		"data:":                         scheme("data"),
		"JavaScript:":                   scheme("javascript"),
		"a+-.9:":                        scheme("a+-.9"),
		"WSS:":                          scheme("wss"),
		"a":                             host("", "a", 0, ""),
		"A":                             host("", "a", 0, ""),
		"https":                         host("", "https", 0, ""), // a host, as no : is there
		"none":                          host("", "none", 0, ""),
		"mark-" + code:                  host("", "mark-aaecawqfbgcicqolda0o", 0, "/w=="), // without quotes it is a host and a path
		"nonce-aB1":                     host("", "nonce-ab1", 0, ""),
		"-":                             host("", "-", 0, ""),
		"1.2.3.4":                       host("", "1.2.3.4", 0, ""),
		"a/":                            host("", "a", 0, "/"),
		"a/X/y":                         host("", "a", 0, "/X/y"), // a path's letters stay as they are
		"a//b":                          host("", "a", 0, "//b"),
		"a/./../*'":                     host("", "a", 0, "/./../*'"), // a path is not cleaned
		"a:*":                           host("", "a", -1, ""),
		"a:*/":                          host("", "a", -1, "/"),
		"a:1":                           host("", "a", 1, ""),
		"a:00001":                       host("", "a", 1, ""),
		"a:65535/b":                     host("", "a", 65535, "/b"),
		"http://a":                      host("http", "a", 0, ""),
		"http://a:80":                   host("http", "a", 80, ""), // a scheme's own port is told too
		"https://a.b:0443//c":           host("https", "a.b", 443, "//c"),
		"Data://a":                      host("data", "a", 0, ""), // a scheme that is not ranked
		"a.b://c":                       host("a.b", "c", 0, ""),
		"http://http":                   host("http", "http", 0, ""),
		"*.a":                           wild("", "a", 0, ""),
		"*:*":                           wild("", "", -1, ""),
		"*:8":                           wild("", "", 8, ""),
		"*/x":                           wild("", "", 0, "/x"),
		"*/":                            wild("", "", 0, "/"),
		"ws://*":                        wild("ws", "", 0, ""),
		"ws://*:81/*":                   wild("ws", "", 81, "/*"),
		"wss://*.A-b.C":                 wild("wss", "a-b.c", 0, ""),
	} {
		if s, ok := source.Parse(w); s != want || !ok {
			t.Errorf("P9.2: Parse(%q): %+v, %t, not %+v", w, s, ok, want)
		}
		checkParse(t, w)
	}
}

// P9.2: words of no source, the chapter's examples among them.
func TestParseWrong(t *testing.T) {
	for _, w := range []string{
		"'x'", "a..b", "https://",
		"", " ", "'", "''", "'''", "\"self\"", "'self", "self'", "'self''", "''self'", " 'self'", "'self' ", "' self'", "'self'/", "'se lf'", "'sel'", "'selff'",
		"'unsafe_inline'", "'unsafe'", "'unsafe-'", "'inline'", "'\u017felf'", "'report-\u017fample'", "'stri\u00e7t-dynamic'", "'self'\x00",
		"'nonce-'", "'nonce-=='", "'nonce-a", "nonce-a'", "'nonce-a''", "''nonce-a'", "'nonce'", "'noncea'", "'nonce_a'", "'nonce-a=b'", "'nonce-a==='", "'nonce- a'", "'nonce-a '", "'nonce-a.'", "'nonce-ä'", "'nonce-\xff'", "'nonce-'a''", "'nonce -a'", "'\u0274once-a'",
		"'mark-'", "'mark-=='", "'mark-AA'", "'mark-" + code, "mark-AA'", "'mark" + code + "'", "'mark- " + code + "'", "'mar\u212a-" + code + "'", "'sha256-" + code + "'",
		"'mark-AAECAwQFBgcICQoLDA0O/w='", "'mark-AAECAwQFBgcICQoLDA0O/w==='", "'mark-AAECAwQFBgcICQoLDA0O/x=='", "'mark-AAECAwQFBgcICQoLDA0O/'", "'mark-AAECAwQFBgcICQoLDA0O/wA'", "'mark-AAECAwQFBgcICQoLDA0O//8='", "'mark-AAECAwQFBgcICQoLDA0O'",
		":", "::", ":a", "1:", "1a:", "*:", "+a:", ".a:", "-:", "a::", "a:b:", "a_b:", "a b:", " a:", "a: ", "ä:", "\u212a:", "\xff:", "a/:", "'a':", "a\x00:",
		"a:0", "a:00", "a:00000", "a:000080", "a:65536", "a:99999", "a:-1", "a:+1", "a:1_0", "a:1x", "a:0x1", "a: 1", "a:1 ", "a:**", "a:*1", "a:1*", "a:/", "a:/x", "a:80:80", "a:80:", "a:\uff11", "a:1.0", "a:18446744073709551617", "*:0",
		".", "..", ".a", "a.", "a.b.", ".a.b", "a_b", "a b", "a@b", "ä", "\u212a", "\xff", "a\x00", "%61", "[::1]", "a\\b", "a'", "a=b",
		"**", "*a", "*.", "*..a", "*.*", "*.*.a", "a.*", "a.*.b", "*.a.", "*a.b", "*.:80", "*./x", ".*", "'*'", "*'", "**.a",
		"/", "/x", "//a", "://", "://a", "://*", ":80", ":*", "//", "*://", "*://a", "1://a", "a_b://c", "ä://c", "http://", "http:///", "http:///x", "http://:80", "http://:80/x", "http:/a", "http:a", "http://http://a", "a://b://c", "http:// a", "http://a:", "http://a:/", "http://*.", "http://.a", "http://a..b", "http://u@a",
		"a?", "a#", "a?b", "a/?", "a/b?c", "a/#", "a/b,c", "a/b;c", "a/b:c", "a/:", "a/b:80", "a/b://c", "a,b", "a;b", "a/ b", "a/b ", "a/\t", "a/ä", "a/\x7f", "a/\xff", "a/\x00", "a/\u00a0",
	} {
		if s, ok := source.Parse(w); s != (api.Source{}) || ok {
			t.Errorf("P9.2: Parse(%q): %+v, %t", w, s, ok)
		}
		checkParse(t, w)
	}
}

// P9.1, P9.2: each kept word, its letters of any size, and with a sign too much, too few, or another one.
func TestKept(t *testing.T) {
	for at, word := range keptWords {
		kind := api.SourceKind(at + 1)
		if text, ok := source.Print(api.Source{Kind: kind}); text != word || !ok {
			t.Errorf("P9.1: Print of the kind %d: %q, %t", kind, text, ok)
		}
		same := []string{word, strings.ToUpper(word)}
		for i := range word {
			same = append(same, word[:i]+strings.ToUpper(word[i:i+1])+word[i+1:], strings.ToUpper(word[:i])+word[i:])
			for n := range 256 {
				c := string([]byte{byte(n)})
				checkParse(t, word[:i]+c+word[i+1:])
				checkParse(t, word[:i]+c+word[i:])
			}
			checkParse(t, word[:i]+word[i+1:])
			checkParse(t, word[:i])
			checkParse(t, word[i:])
		}
		for _, w := range same {
			if s, ok := source.Parse(w); s != (api.Source{Kind: kind}) || !ok {
				t.Errorf("P9.2: Parse(%q): %+v, %t", w, s, ok)
			}
		}
	}
}

// P9.1, R4: kinds that are none, with all else empty and not.
func TestKinds(t *testing.T) {
	for _, kind := range []api.SourceKind{0, -1, -8, 13, 14, 100, 256 + 1, 1<<32 + 2, math.MaxInt, math.MinInt} {
		for _, s := range []api.Source{{}, nonce("a"), mark(hash), scheme("a"), host("a", "b", 1, "/"), wild("", "", 0, "")} {
			s.Kind = kind
			checkRight(t, s, false)
		}
	}
	for kind := range api.SourceKind(15) {
		checkRight(t, api.Source{Kind: kind}, api.SourceNone <= kind && kind <= api.SourceSample)
		for _, s := range []api.Source{nonce("a"), mark(hash), scheme("a"), host("a", "b", 1, "/"), host("", "b", 0, ""), wild("", "", 0, "")} {
			own := s.Kind == kind
			s.Kind = kind
			checkRight(t, s, own || kind == api.SourceNonce && s == nonce("a"))
		}
	}
}

// P9.1: what a kind does not name must be empty or 0.
func TestNotNamed(t *testing.T) {
	fills := map[string]func(s *api.Source){
		"text":   func(s *api.Source) { s.Text = "a" },
		"scheme": func(s *api.Source) { s.Scheme = "a" },
		"host":   func(s *api.Source) { s.Host = "a" },
		"wild":   func(s *api.Source) { s.Wild = true },
		"port":   func(s *api.Source) { s.Port = 1 },
		"any":    func(s *api.Source) { s.Port = -1 },
		"path":   func(s *api.Source) { s.Path = "/" },
	}
	named := map[api.SourceKind]string{api.SourceNonce: "text", api.SourceHash: "text", api.SourceScheme: "scheme", api.SourceHost: "scheme host wild port any path"}
	list := []api.Source{nonce("b"), mark(hash), scheme("b"), host("", "b", 0, "")}
	for at := range keptWords {
		list = append(list, api.Source{Kind: api.SourceKind(at + 1)})
	}
	for _, s := range list {
		checkRight(t, s, true)
		for field, fill := range fills {
			other := s
			fill(&other)
			checkRight(t, other, strings.Contains(named[s.Kind], field) && s.Kind != api.SourceHash)
		}
	}
}

// P9.1: sources written out by hand, right and not.
func TestPrint(t *testing.T) {
	for word, s := range map[string]api.Source{
		"'self'":                 {Kind: api.SourceSelf},
		"'nonce-aB1='":           nonce("aB1="),
		"'nonce-_-+/=='":         nonce("_-+/=="), // it is written as it is
		"'mark-" + code + "'":    mark(hash),
		"https:":                 scheme("https"),
		"x-y.z+1:":               scheme("x-y.z+1"),
		"a":                      host("", "a", 0, ""),
		"https://*.a.b:*/x":      wild("https", "a.b", -1, "/x"),
		"*":                      wild("", "", 0, ""),
		"*:*":                    wild("", "", -1, ""),
		"*:80/":                  wild("", "", 80, "/"),
		"http://*":               wild("http", "", 0, ""),
		"*.a":                    wild("", "a", 0, ""),
		"a:80":                   host("", "a", 80, ""),
		"a:65535//B/../*!$&()=@": host("", "a", 65535, "//B/../*!$&()=@"),
		"data://a:1/":            host("data", "a", 1, "/"),
	} {
		if text, ok := source.Print(s); text != word || !ok {
			t.Errorf("P9.1: Print(%+v): %q, %t, not %q", s, text, ok, word)
		}
		checkRight(t, s, true)
	}
	for _, s := range []api.Source{
		{}, nonce(""), nonce("="), nonce("a==="), nonce("a b"), nonce("'"), nonce("ä"), nonce("a=b"),
		mark(""), mark("a"), mark(code), mark(hash[:15]), mark(hash + "a"),
		scheme(""), scheme("A"), scheme("https:"), scheme("1"), scheme("+"), scheme("a_"), scheme("a b"), scheme("ä"),
		host("", "", 0, ""), host("http", "", 0, ""), host("", "", 80, "/"), host("http", "", -1, "/"),
		host("", "A", 0, ""), host("", ".a", 0, ""), host("", "a.", 0, ""), host("", "a..b", 0, ""), host("", ".", 0, ""), host("", "a:1", 0, ""), host("", "a/", 0, ""), host("", "*", 0, ""), host("", "*.a", 0, ""), host("", "ä", 0, ""), host("", "a b", 0, ""), host("", "'a'", 0, ""), host("", "a:", 0, ""),
		wild("", "*", 0, ""), wild("", ".a", 0, ""), wild("", ".", 0, ""), wild("", "A", 0, ""),
		host("A", "b", 0, ""), host("1", "b", 0, ""), host(":", "b", 0, ""), host("a:", "b", 0, ""), host("a b", "c", 0, ""), wild("Http", "", 0, ""), wild("*", "", 0, ""),
		host("", "a", -2, ""), host("", "a", 65536, ""), host("", "a", math.MinInt, ""), host("", "a", math.MaxInt, ""), host("", "a", -80, ""), wild("", "", 1<<32, ""), wild("", "", 1<<32+80, ""), wild("", "", -1<<32, ""),
		host("", "a", 0, "b"), host("", "a", 0, "b/"), host("", "a", 0, "?"), host("", "a", 0, "/?"), host("", "a", 0, "/#"), host("", "a", 0, "/,"), host("", "a", 0, "/;"), host("", "a", 0, "/:"), host("", "a", 0, "/ "), host("", "a", 0, " /"), host("", "a", 0, "/b c"), host("", "a", 0, "/ä"), host("", "a", 0, "/\x7f"), wild("", "", 0, "a"), wild("", "", 0, ".a"), wild("", "", 0, ":80"),
	} {
		checkRight(t, s, false)
	}
}

// P9.1, P9.2: each byte, in each place of a word and of a source.
func TestEachByte(t *testing.T) {
	for n := range 256 {
		c := string([]byte{byte(n)})
		for _, w := range []string{c, c + c, "'" + c + "'", "'nonce-" + c + "'", "'nonce-a" + c + "'", "'nonce-a" + c + "b'", "'nonce" + c + "a'", "'nonce-a'" + c, "'nonce-a" + c,
			"'mark-" + c + code[1:] + "'", "'mark-" + code[:21] + c + "=='", "'mark-" + code[:21] + c + "'", "'mark-" + code[:22] + c + "='", "'mark-" + code[:22] + c + "'", "'mark-" + code + c + "'", "'mark" + c + code + "'",
			c + ":", "a" + c + ":", "a" + c + "b:", "a:" + c, c + "a", "a" + c, "a" + c + "b", "a." + c, "*" + c, "*" + c + "a", "*." + c, "a:" + c + "1", "a:1" + c, "a:1" + c + "/", "a:" + c + "/", "*:" + c,
			"a/" + c, "a/" + c + "b", "a/b" + c, "a:*" + c, c + "://a", "a" + c + "://b", "a:" + c + "/b", "a:/" + c + "b", "a://" + c, "a://b" + c, "a://*" + c + "b", "a" + c + "//b", "a://" + c + "b:80/"} {
			checkParse(t, w)
		}
		for _, text := range []string{c, c + c, "a" + c, c + "a", "a" + c + "b", "/" + c, "/a" + c + "b", strings.Repeat(c, 16)} {
			for _, s := range []api.Source{nonce(text), mark(text), scheme(text), host(text, "a", 0, ""), host("", text, 0, ""), wild("", text, 0, ""), wild(text, "", 0, ""), host("", "a", 0, text), wild("", "", 80, text)} {
				checkPrint(t, s)
			}
		}
	}
}

// P9.1, P9.2: a path has none of the bytes that end a directive, a query's or a port's.
func TestPathBytes(t *testing.T) {
	for n := range 256 {
		path := "/a" + string([]byte{byte(n)}) + "b"
		right := 33 <= n && n <= 126 && !strings.Contains("?#,;:", path[2:3])
		checkRight(t, host("", "a", 0, path), right)
		if s, ok := source.Parse("a" + path); ok != right || s.Path != "" != right || right && s.Path != path {
			t.Errorf("P9.2: Parse(%q): %+v, %t", "a"+path, s, ok)
		}
	}
}

// P9.1, P9.2: the limits: a nonce's and a path's 200 bytes, a mark's 16, a scheme's 20, a host's 100.
func TestLimits(t *testing.T) {
	check := func(s api.Source, word string, right bool) {
		t.Helper()
		checkRight(t, s, right)
		if told, ok := source.Parse(word); ok != right || right && told != s || !right && told != (api.Source{}) {
			t.Errorf("P9.2: Parse(%q): %+v, %t", word, told, ok)
		}
		checkParse(t, word)
	}
	for size := range 300 {
		text := strings.Repeat("a", size)
		check(nonce(text), "'nonce-"+text+"'", 1 <= size && size <= 200)
		check(scheme(text), text+":", 1 <= size && size <= 20)
		check(host("", "b", 0, "/"+text), "b/"+text, size <= 199)
		check(host("wss", "b", -1, "/"+text), "wss://b:*/"+text, size <= 199)
		if size == 0 {
			continue
		}
		check(nonce(text+"=="), "'nonce-"+text+"=='", size <= 198)
		check(host("", text, 0, ""), text, size <= api.MaxHost)
		check(wild("", text, 0, ""), "*."+text, size <= api.MaxHost)
		check(host(text, "b", 0, ""), text+"://b", size <= 20)
		check(wild(text, "", 0, ""), text+"://*", size <= 20)
	}
	points := strings.Repeat("a.", 60)
	check(host("", points[:99], 65535, ""), points[:99]+":65535", true)
	check(host("", points[:101], 0, ""), points[:101], false)
	long := host(strings.Repeat("s", 20), strings.Repeat("h", 100), 12345, "/"+strings.Repeat("p", 199))
	long.Wild = true
	check(long, long.Scheme+"://*."+long.Host+":12345"+long.Path, true)
}

// P9.1, P9.2: marks of all sizes up to 40 bytes; only those of 16 are right, in each way in which they may be told.
func TestMarks(t *testing.T) {
	all := strings.Repeat("\xff\xfe\x00\x10\x83a'\xfb", 5)
	other := strings.NewReplacer("+", "-", "/", "_")
	for size := range len(all) {
		for from := range len(all) - size {
			s := mark(all[from : from+size])
			checkRight(t, s, size == 16)
			word := modelWord(s)
			for _, w := range []string{word, other.Replace(word), strings.ReplaceAll(word, "=", ""), other.Replace(strings.ReplaceAll(word, "=", "")), "'MaRk" + word[5:]} {
				if told, ok := source.Parse(w); ok != (size == 16) || ok && told != s {
					t.Errorf("P9.2: Parse(%q): %+v, %t", w, told, ok)
				}
				checkParse(t, w)
			}
		}
	}
	for _, sign := range "ABCDEFGHIJKLMNOPQRSTUVWXYZabcdefghijklmnopqrstuvwxyz0123456789+/-_=" {
		checkParse(t, "'mark-"+code[:21]+string(sign)+"'")
		checkParse(t, "'mark-"+code[:21]+string(sign)+"=='")
	}
}

// P9.1, P9.2: all numbers of a port that have up to five digits, as they are and with zeros ahead.
func TestPorts(t *testing.T) {
	for n := range 100000 {
		want := host("", "a", n, "")
		right := 1 <= n && n <= 65535
		digits := strconv.Itoa(n)
		for zeros := range 7 - len(digits) {
			s, ok := source.Parse("a:" + strings.Repeat("0", zeros) + digits)
			if fits := zeros+len(digits) <= 5; ok != (right && fits) || ok && s != want || !ok && s != (api.Source{}) {
				t.Fatalf("P9.2: port %d with %d zeros ahead: %+v, %t", n, zeros, s, ok)
			}
		}
		if word, ok := source.Print(want); ok != (n <= 65535) || right && word != "a:"+digits || n == 0 && word != "a" {
			t.Fatalf("P9.1: port %d: %q, %t", n, word, ok)
		}
	}
}

// P9.2, P9.3: all short texts, alone and behind the begin of a word, against the model.
func TestParseAgainstModel(t *testing.T) {
	parsed := 0
	for begin, longest := range map[string]int{"": 6, "'": 4, "a:": 5, "a:/": 5, "A://": 6, "*": 6, "*.": 5, "a:8": 5, "a/": 4, "'nonce-": 4, "a://*": 5} {
		eachUpTo("aB:/.*08'", longest, func(w string) {
			if checkParse(t, begin+w) {
				parsed++
			}
		})
	}
	if parsed < 50000 {
		t.Errorf("P9.2: only %d texts are parsed", parsed)
	}
}

// P9.2, P9.3: words whose parts stand in lists, all with all, against the model.
func TestParseRows(t *testing.T) {
	parsed := 0
	eachRow([][]string{
		{"", " "},
		{"", "http", "HTTPS", "Data", "1a", "a_b", "*", strings.Repeat("s", 21)},
		{"", "://", ":", "//", ":/"},
		{"", "*", "*.", "**", "."},
		{"", "a", "A.B-c", "a..b", ".a", "a.", "*", "\xff", strings.Repeat("h", 100), strings.Repeat("h", 101)},
		{"", ":80", ":080", ":*", ":0", ":65535", ":65536", ":000001", ":8x", ":", ":-1"},
		{"", "/", "/X/../y", "/x:y", "/x;y", "/?x", "//", "/" + strings.Repeat("p", 199), "/" + strings.Repeat("p", 200)},
		{"", " "},
	}, func(w string) {
		if checkParse(t, w) {
			parsed++
		}
	})
	if parsed < 1000 {
		t.Errorf("P9.2: only %d words are parsed", parsed)
	}
}

// P9.1, P9.3: sources whose parts stand in lists, all with all, against the model.
func TestPrintRows(t *testing.T) {
	right := 0
	for _, begin := range []string{"", "http", "data", "Http", "a:"} {
		for _, name := range []string{"", "a", "a.b-1", "A", "a.", "*", strings.Repeat("h", 100), strings.Repeat("h", 101)} {
			for _, port := range []int{0, -1, 1, 80, 65535, 65536, -2, math.MinInt, math.MaxInt} {
				for _, path := range []string{"", "/", "//x", "/X/../y", "x", "/x:", "/,", "/" + strings.Repeat("p", 199), "/" + strings.Repeat("p", 200)} {
					for _, text := range []string{"", "a", hash} {
						for kind := range api.SourceKind(14) {
							for _, isWild := range []bool{false, true} {
								s := api.Source{Kind: kind, Text: text, Scheme: begin, Host: name, Wild: isWild, Port: port, Path: path}
								checkPrint(t, s)
								if _, ok := source.Print(s); ok {
									right++
								}
							}
						}
					}
				}
			}
		}
	}
	if right < 500 {
		t.Errorf("P9.1: only %d sources are right", right)
	}
}

// P9.2: the sources of those words that are some, in order, as often as they are there.
func TestList(t *testing.T) {
	for _, row := range []struct {
		words []string
		want  []api.Source
	}{
		{nil, nil},
		{[]string{}, nil},
		{[]string{""}, nil},
		{[]string{"'x'", "a..b", "https://"}, nil},
		{[]string{"'SELF'", "'nonce-aB1='", "'x'", "https:", "HTTPS://*.A.b:*/x", "a..b", "*", "a:080", "https://"},
			[]api.Source{{Kind: api.SourceSelf}, nonce("aB1="), scheme("https"), wild("https", "a.b", -1, "/x"), wild("", "", 0, ""), host("", "a", 80, "")}},
		{[]string{"b", "", "a", "b", "B"}, []api.Source{host("", "b", 0, ""), host("", "a", 0, ""), host("", "b", 0, ""), host("", "b", 0, "")}},
		{[]string{"'none'", "'none'", "\xff"}, []api.Source{{Kind: api.SourceNone}, {Kind: api.SourceNone}}},
		{[]string{"a b", "a,b", "c"}, []api.Source{host("", "c", 0, "")}}, // a text that has words is none itself
	} {
		if l := source.List(row.words); !slices.Equal(l, row.want) {
			t.Errorf("P9.2: List(%q): %+v, not %+v", row.words, l, row.want)
		}
	}
	words, want := []string{}, []api.Source{}
	eachUpTo("a:*/.'", 5, func(w string) {
		words = append(words, w)
		if s, ok := modelParse(w); ok {
			want = append(want, s)
		}
	})
	if l := source.List(words); !slices.Equal(l, want) || len(l) < 200 {
		t.Errorf("P9.2: List of %d words: %d, not %d", len(words), len(l), len(want))
	}
}

// R2: what is handed in stays as it is, and is not kept; lists that come out share no memory.
func TestListsApart(t *testing.T) {
	told := []string{"a", "'x'", "*", "'nonce-n'", "https:"}
	words := append(make([]string, 0, 20), told...)
	first, second := source.List(words), source.List(words)
	want := []api.Source{host("", "a", 0, ""), wild("", "", 0, ""), nonce("n"), scheme("https")}
	if !slices.Equal(words, told) || slices.ContainsFunc(words[:cap(words)][len(words):], func(w string) bool { return w != "" }) {
		t.Errorf("R2: List changed its words: %q", words[:cap(words)])
	}
	clear(words)
	if !slices.Equal(first, want) {
		t.Errorf("R2: List kept its words: %+v", first)
	}
	_ = append(first, nonce("x"), nonce("y"), nonce("z"))
	clear(first)
	_ = append(first[:0], nonce("z"))
	if !slices.Equal(second, want) || !slices.Equal(source.List(told), want) {
		t.Errorf("R2: lists of two answers share memory: %+v", second)
	}
}

// R2: what a call answers hangs on its arguments alone, and stays as it was told.
func TestAgain(t *testing.T) {
	const w = "HTTPS://*.A.b:*/x"
	s, ok := source.Parse(w)
	word, right := source.Print(s)
	for _, other := range append([]string{"", "'x'", "'nonce-n'", "'mark-" + code + "'", "data:", "a:0", "*://a", "\xff"}, keptWords...) {
		told, _ := source.Parse(other)
		source.Print(told)
		source.List([]string{other, w})
	}
	again, okAgain := source.Parse(w)
	if s != wild("https", "a.b", -1, "/x") || !ok || again != s || !okAgain || word != "https://*.a.b:*/x" || !right {
		t.Errorf("R2: %+v, %t, %q, and again %+v", s, ok, word, again)
	}
}

// R1, R4: long texts of any bytes, in each place.
func TestLong(t *testing.T) {
	all := make([]byte, 256)
	for n := range all {
		all[n] = byte(n)
	}
	for _, text := range []string{
		strings.Repeat(string(all), 1000), strings.Repeat("a", 300000), strings.Repeat(":", 300000), strings.Repeat("/", 300000), strings.Repeat("*", 300000), strings.Repeat("'", 300000),
		strings.Repeat("a.", 100000), strings.Repeat("://", 100000), strings.Repeat("0", 300000), strings.Repeat("A", 299999) + "=", strings.Repeat("\xff", 300000), strings.Repeat("*.", 100000) + "a",
	} {
		for _, begin := range []string{"", "'", "'nonce-", "'mark-", "*", "*.", "a:", "a://", "a://*.", "a:*", "a/", "a://b:80/"} {
			for _, end := range []string{"", "'", ":", "://a", "/"} {
				if s, ok := source.Parse(begin + text + end); s != (api.Source{}) || ok {
					t.Errorf("P9.2: a long word, %q ahead and %q behind: %t", begin, end, ok)
				}
			}
		}
		for _, s := range []api.Source{nonce(text), mark(text), scheme(text), host(text, "a", 0, ""), host("", text, 0, ""), wild("", text, 0, ""), host("", "a", 0, text), host("", "a", 0, "/"+text), {Kind: api.SourceSelf, Text: text}} {
			if word, ok := source.Print(s); word != "" || ok {
				t.Errorf("P9.1: a source of the kind %d with a long text: %t", s.Kind, ok)
			}
		}
	}
	words := slices.Repeat([]string{"*.a", "'x'", "'NONE'"}, 100000)
	if l := source.List(words); len(l) != 200000 || l[0] != wild("", "a", 0, "") || l[199999] != (api.Source{Kind: api.SourceNone}) {
		t.Errorf("P9.2: List of %d words: %d", len(words), len(l))
	}
}
