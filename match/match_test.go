package match_test

import (
	"math"
	"strings"
	"testing"

	"pounce/api"
	"pounce/match"
	"pounce/source"
	"pounce/url"
)

// address answers what a text that must be right is parsed as.
func address(t *testing.T, text string) api.URL {
	t.Helper()
	u, e := url.Parse(text)
	if e != api.OK {
		t.Fatalf("%q is no address: %d", text, e)
	}
	return u
}

// lets answers the source of a word that must be one's.
func lets(t *testing.T, word string) api.Source {
	t.Helper()
	s, ok := source.Parse(word)
	if !ok {
		t.Fatalf("%q is no source's word", word)
	}
	return s
}

// wrong are addresses that are not right, each by one of its parts.
var wrong = []api.URL{
	{},
	{Scheme: "https"},
	{Scheme: "https", Host: "a"},
	{Host: "a", Path: "/"},
	{Scheme: "ftp", Host: "a", Path: "/"},
	{Scheme: "data", Path: "x"},
	{Scheme: "HTTP", Host: "a", Path: "/"},
	{Scheme: "http", Host: "A", Path: "/"},
	{Scheme: "http", Host: "a..b", Path: "/"},
	{Scheme: "http", Host: "", Path: "/"},
	{Scheme: "http", Host: "a", Port: 80, Path: "/"}, // an address tells its scheme's own port as 0
	{Scheme: "https", Host: "a", Port: 443, Path: "/"},
	{Scheme: "http", Host: "a", Port: -1, Path: "/"},
	{Scheme: "http", Host: "a", Port: 65536, Path: "/"},
	{Scheme: "http", Host: "a", Port: math.MinInt, Path: "/"},
	{Scheme: "http", Host: "a", Path: "x"},
	{Scheme: "http", Host: "a", Path: "/x/../y"},
	{Scheme: "http", Host: "a", Path: "/x y"},
	{Scheme: "http", Host: "a", Path: "/", Query: "q"},
	{Scheme: "http", Host: "a", Path: "/", Query: "?#"},
	{Scheme: "http", Host: strings.Repeat("a", api.MaxHost+1), Path: "/"},
	{Scheme: "http", Host: "a", Path: "/" + strings.Repeat("x", api.MaxUrl)},
	{Opaque: true},
	{Opaque: true, Scheme: "http"},
	{Opaque: true, Scheme: "http", Host: "a", Path: "/"}, // what would be right, if it were not opaque
	{Opaque: true, Scheme: "data", Host: "a", Path: "x"},
	{Opaque: true, Scheme: "Data", Path: "x"},
}

// P10.1: the schemes that are told, and those that are let be by them; letters are not made small.
func TestScheme(t *testing.T) {
	list := []string{"", "http", "https", "ws", "wss", "HTTP", "Https", "httpss", "htt", "http:", "data", "w", "wsss", "s", " http", "\xff"}
	for _, told := range list {
		for _, is := range list {
			want := told == is || told == "http" && is == "https" || told == "ws" && is == "wss"
			if got := match.Scheme(told, is); got != want {
				t.Errorf("P10.1: Scheme(%q, %q): %t", told, is, got)
			}
			if modelScheme(told, is) != want {
				t.Errorf("the model of P10.1: Scheme(%q, %q): %t", told, is, !want)
			}
		}
	}
}

// P10.1: hosts written out by hand.
func TestHost(t *testing.T) {
	for _, row := range []struct {
		wild     bool
		told, is string
		want     bool
	}{
		{false, "a", "a", true},
		{false, "A.b", "a.B", true},
		{false, "a", "b", false},
		{false, "a", "x.a", false},
		{false, "x.a", "a", false},
		{false, "", "", true},
		{false, "", "a", false},
		{false, "a", "", false},
		{false, "ä", "ä", true},
		{false, "ä", "Ä", false}, // chapter 2 makes no other alphabet's letters small
		{false, "a\xff", "A\xff", true},
		{false, "*.a", "x.a", false},
		{false, "[", "{", false}, // the bytes around the letters
		{false, "@", "`", false},
		{true, "", "", true},
		{true, "", "a", true},
		{true, "", "\xff", true},
		{true, "a.b", "x.a.b", true},
		{true, "A.b", "X.a.B", true},
		{true, "a.b", "y.x.a.b", true},
		{true, "a.b", "a.b", false},
		{true, "a.b", ".a.b", false},
		{true, "a.b", "..a.b", true}, // what is ahead is asked for nothing
		{true, "a.b", "xa.b", false},
		{true, "a.b", "x.a.b.c", false},
		{true, "a.b", "x.aXb", false},
		{true, "a.b", "x.b", false},
		{true, "a", "", false},
		{true, "a", "a", false},
		{true, "a", "b", false},
		{true, "a", "x.y", false},
		{true, ".a", "x.a", false},
		{true, ".a", "x..a", true},
		{true, "\xff", "x.\xff", true},
		{true, "a", "\x00.a", true},
	} {
		for kind := range api.SourceKind(14) { // the kind plays no part, nor does any other field
			s := api.Source{Kind: kind, Host: row.told, Wild: row.wild, Scheme: "x", Path: "y", Port: 7, Text: "z"}
			if got := match.Host(s, row.is); got != row.want {
				t.Errorf("P10.1: Host(%+v, %q): %t", s, row.is, got)
			}
			if modelHost(s, row.is) != row.want {
				t.Errorf("the model of P10.1: Host(%+v, %q): %t", s, row.is, !row.want)
			}
		}
	}
}

// P10.1: each byte at each place of a host: only letters are the same in two sizes.
func TestHostBytes(t *testing.T) {
	for n := range 256 {
		for m := range 256 {
			c, d := string([]byte{byte(n)}), string([]byte{byte(m)})
			want := c == d || n|32 == m|32 && 'a' <= n|32 && n|32 <= 'z'
			for told, is := range map[string]string{c: d, "x" + c: "x" + d, c + "y": d + "Y"} {
				if match.Host(api.Source{Host: told}, is) != want || match.Host(api.Source{Host: told, Wild: true}, "w."+is) != want {
					t.Fatalf("P10.1: Host of %q, %q", told, is)
				}
			}
		}
		c := string([]byte{byte(n)})
		if got := match.Host(api.Source{Host: "a", Wild: true}, "x"+c+"a"); got != (c == ".") {
			t.Errorf("P10.1: Host of a wild a, %q: %t", "x"+c+"a", got)
		}
		if !match.Host(api.Source{Host: "a", Wild: true}, c+".a") {
			t.Errorf("P10.1: Host of a wild a, %q", c+".a")
		}
	}
}

// P10.1: all short texts as hosts, against the model.
func TestHostAgainstModel(t *testing.T) {
	list := []string{""}
	for from, longest := 0, 4; longest > 0; longest-- {
		end := len(list)
		for ; from < end; from++ {
			for _, c := range "aB.-" {
				list = append(list, list[from]+string(c))
			}
		}
	}
	got := map[bool]int{}
	for _, told := range list {
		if len(told) > 3 {
			continue
		}
		for _, wild := range []bool{false, true} {
			for _, is := range list {
				s := api.Source{Host: told, Wild: wild}
				if told == "" && wild || len(told) < 2 || len(is) < 4 || strings.HasSuffix(modelSmall(is), modelSmall(told)) {
					want := modelHost(s, is)
					got[want]++
					if match.Host(s, is) != want {
						t.Fatalf("P10.1: Host(%+v, %q): %t", s, is, !want)
					}
				}
			}
		}
	}
	if got[true] < 500 || got[false] < 5000 {
		t.Errorf("P10.1: %v", got)
	}
}

// P10.2: ports written out by hand.
func TestPort(t *testing.T) {
	for _, row := range []struct {
		told   int
		scheme string
		is     int
		want   bool
	}{
		{-1, "http", 0, true}, {-1, "https", 1, true}, {-1, "data", -7, true}, {-1, "", math.MaxInt, true},
		{0, "http", 0, true}, {0, "http", 80, true}, {0, "http", 443, false}, {0, "http", 81, false},
		{0, "https", 0, true}, {0, "https", 443, true}, {0, "https", 80, false},
		{0, "ws", 0, true}, {0, "ws", 80, true}, {0, "ws", 443, false},
		{0, "wss", 0, true}, {0, "wss", 443, true}, {0, "wss", 80, false},
		{0, "data", 0, true}, {0, "data", 80, false}, {0, "HTTP", 80, false}, {0, "", 0, true}, {0, "http", -1, false},
		{80, "http", 0, true}, {80, "http", 80, true}, {80, "http", 443, true}, {80, "http", 81, false},
		{80, "https", 0, true}, {80, "https", 80, true}, {80, "https", 443, true}, {80, "https", 444, false},
		{80, "ws", 0, true}, {80, "wss", 0, true}, {80, "data", 0, false}, {80, "data", 443, true},
		{443, "https", 0, true}, {443, "wss", 0, true}, {443, "http", 443, true}, {443, "http", 0, false}, {443, "https", 80, false}, {443, "ws", 0, false},
		{81, "http", 81, true}, {81, "http", 0, false}, {81, "https", 443, false}, {81, "https", 444, false},
		{65535, "http", 65535, true}, {65535, "http", -1, false},
		{-2, "http", -2, true}, {-2, "http", 0, false}, {-80, "http", 0, false}, {-80, "http", 443, false},
		{math.MaxInt, "x", math.MaxInt, true}, {math.MinInt, "x", math.MinInt, true}, {math.MinInt, "x", math.MaxInt, false},
		{1 << 32, "x", 0, false}, {1<<32 + 80, "http", 0, false}, {1<<32 + 80, "http", 443, false},
	} {
		s := api.Source{Kind: api.SourceHost, Host: "b", Scheme: "y", Path: "z", Port: row.told}
		u := api.URL{Scheme: row.scheme, Host: "a", Port: row.is}
		if got := match.Port(s, u); got != row.want {
			t.Errorf("P10.2: Port of %d, %s and %d: %t", row.told, row.scheme, row.is, got)
		}
		if modelPort(s, u) != row.want {
			t.Errorf("the model of P10.2: Port of %d, %s and %d: %t", row.told, row.scheme, row.is, !row.want)
		}
	}
}

// P10.2: the ports near those that are somebody's own, and near the greatest ones, all with all.
func TestPortAgainstModel(t *testing.T) {
	list := []int{math.MinInt, math.MaxInt, 65534, 65535, 65536, -80, -443, 8080}
	for near := range 5 {
		list = append(list, near-2, near+78, near+441)
	}
	for _, scheme := range []string{"http", "https", "ws", "wss", "data", "", "Http"} {
		for _, told := range list {
			for _, is := range list {
				for _, opaque := range []bool{false, true} {
					s, u := api.Source{Port: told}, api.URL{Opaque: opaque, Scheme: scheme, Port: is}
					if want := modelPort(s, u); match.Port(s, u) != want {
						t.Errorf("P10.2: Port of %d, %s and %d: %t", told, scheme, is, !want)
					}
				}
			}
		}
	}
}

// P10.2: paths written out by hand.
func TestPath(t *testing.T) {
	for _, row := range []struct {
		told, is string
		want     bool
	}{
		{"", "", true}, {"", "/", true}, {"", "/x", true}, {"", "x", true},
		{"/", "/", true}, {"/", "/x", true}, {"/", "/x/y", true}, {"/", "", false}, {"/", "x", false},
		{"/x", "/x", true}, {"/x", "/x/", false}, {"/x", "/x/y", false}, {"/x", "/xy", false}, {"/x", "/", false}, {"/x", "/X", false}, {"/x", "", false},
		{"/x/", "/x/", true}, {"/x/", "/x/y", true}, {"/x/", "/x/y/z", true}, {"/x/", "/x", false}, {"/x/", "/xy", false}, {"/x/", "/X/y", false}, {"/x/", "/y/x/", false},
		{"//", "/", false}, {"//", "//x", true}, {"/x//", "/x/y", false},
		{"x", "x", true}, {"x/", "x/y", true}, {"a/x", "/x", false},
		{"/%41", "/A", false}, {"/x", "/x?q", false}, {"/\xff/", "/\xff/y", true},
		{"/x/../y", "/y", false}, // what is told is not cleaned
	} {
		if got := match.Path(row.told, row.is, false); got != row.want {
			t.Errorf("P10.2: Path(%q, %q): %t", row.told, row.is, got)
		}
		if !match.Path(row.told, row.is, true) {
			t.Errorf("P10.2: Path(%q, %q), moved", row.told, row.is)
		}
		if modelPath(row.told, row.is, false) != row.want {
			t.Errorf("the model of P10.2: Path(%q, %q): %t", row.told, row.is, !row.want)
		}
	}
	for n := range 256 {
		c := string([]byte{byte(n)})
		if got := match.Path("/x"+c, "/x"+c+"y", false); got != (c == "/") {
			t.Errorf("P10.2: Path of what ends with the byte %d: %t", n, got)
		}
		for m := range 256 {
			d := string([]byte{byte(m)})
			if match.Path("/"+c, "/"+d, false) != (n == m) || match.Path("/"+c+"/", "/"+d+"/y", false) != (n == m) {
				t.Fatalf("P10.2: Path of the bytes %d and %d", n, m)
			}
		}
	}
}

// P10.2: all short texts as paths, against the model.
func TestPathAgainstModel(t *testing.T) {
	list := []string{""}
	for from, longest := 0, 4; longest > 0; longest-- {
		end := len(list)
		for ; from < end; from++ {
			for _, c := range "/xX." {
				list = append(list, list[from]+string(c))
			}
		}
	}
	for _, told := range list {
		for _, is := range list {
			for _, moved := range []bool{false, true} {
				if want := modelPath(told, is, moved); match.Path(told, is, moved) != want {
					t.Fatalf("P10.2: Path(%q, %q, %t): %t", told, is, moved, !want)
				}
			}
		}
	}
}

// checkUrl holds an answer against the model, and against what follows from the promises.
func checkUrl(t *testing.T, s api.Source, u, self api.URL) bool {
	t.Helper()
	still, moved := match.Url(s, u, self, false), match.Url(s, u, self, true)
	if want := modelUrl(s, u, self, false); still != want {
		t.Errorf("P10.3: Url(%+v, %+v, %+v): %t", s, u, self, still)
	}
	if want := modelUrl(s, u, self, true); moved != want {
		t.Errorf("P10.3: Url(%+v, %+v, %+v), moved: %t", s, u, self, moved)
	}
	if still && !moved {
		t.Errorf("P10.4: Url(%+v, %+v, %+v) lets be, but not moved", s, u, self)
	}
	return still
}

// P10.3: the chapter's examples, and rows written out by hand.
func TestUrl(t *testing.T) {
	for _, row := range []struct {
		word, address, self string
		still, moved        bool
	}{
		{"*.a.b", "https://x.a.b/y", "http://a", true, true},
		{"*.a.b", "https://a.b/", "https://a", false, false},
		{"a/x/", "http://a/x/y", "http://a", true, true},
		{"a/x", "http://a/x/y", "http://b", false, true},
		{"a/x", "http://a/x?q", "http://b", true, true}, // the query plays no part
		{"a/x", "http://a/x", "http://b?q", true, true},
		{"a/y", "http://a/x?/y", "http://b", false, true},
		{"a", "http://a/", "http://b", true, true}, // of a host without a scheme self's scheme counts, not its host
		{"a", "https://a/", "http://b", true, true},
		{"a", "http://a/", "https://b", false, false},
		{"a", "wss://a/", "http://b", false, false},
		{"a", "wss://a/", "ws://b", true, true},
		{"a", "http://a/", "data:x", false, false},
		{"a", "http://a/", "http://b:81", true, true},
		{"a", "http://a:81/", "http://b:81", false, false},
		{"a:81", "http://a:81/", "http://b", true, true},
		{"a:81", "http://a/", "http://b", false, false},
		{"a:*", "http://a:9/", "http://b", true, true},
		{"a:80", "https://a/", "http://b", true, true},
		{"a:80", "http://a:443/", "http://b", true, true},
		{"a:443", "http://a/", "http://b", false, false},
		{"a:443", "https://a/", "http://b", true, true},
		{"http://a", "https://a/", "https://b", true, true},
		{"http://a", "ws://a/", "ws://b", false, false},
		{"https://a", "http://a/", "http://b", false, false},
		{"https://a", "https://a:444/", "http://b", false, false},
		{"https://*", "https://x.y/", "data:x", true, true},
		{"*", "http://x.y/z?q", "http://a", true, true},
		{"*", "http://x.y:81/", "http://a", false, false},
		{"*:*", "https://x.y:81/", "http://a", true, true},
		{"*:*", "https://x.y:81/", "ws://a", false, false},
		{"*:*", "data:x", "data:y", false, false}, // no host's source lets an opaque one be
		{"data://a", "data:x", "http://a", false, false},
		{"data://*:*", "data:x", "data:y", false, false},
		{"https:", "https://a:9/x", "http://b", true, true},
		{"http:", "https://a/", "data:x", true, true},
		{"http:", "http://a/", "data:x", true, true},
		{"ws:", "wss://a/", "http://b", true, true},
		{"wss:", "ws://a/", "http://b", false, false},
		{"http:", "ws://a/", "http://b", false, false},
		{"data:", "data:x", "http://b", true, true},
		{"data:", "blob:x", "http://b", false, false},
		{"http:", "data:http://a/", "http://b", false, false},
		{"'self'", "http://a/x", "http://a/y?q", true, true},
		{"'self'", "http://b/x", "http://a/x", false, false},
		{"'self'", "http://x.a/", "http://a/", false, false},
		{"'self'", "https://a/", "http://a/", true, true},
		{"'self'", "http://a/", "https://a/", false, false},
		{"'self'", "wss://a/", "ws://a/", true, true},
		{"'self'", "ws://a/", "http://a/", false, false},
		{"'self'", "wss://a/", "http://a/", false, false},
		{"'self'", "http://a:81/", "http://a:81/", true, true},
		{"'self'", "https://a:81/", "http://a:81/", false, false},
		{"'self'", "https://a/", "http://a:81/", false, false},
		{"'self'", "https://a:81/", "http://a/", false, false},
		{"'self'", "http://a:443/", "https://a/", false, false},
		{"'self'", "https://a:80/", "http://a/", false, false},
		{"'self'", "data:x", "data:x", false, false},
		{"'self'", "http://a/", "data:x", false, false},
		{"'self'", "data:x", "http://a/", false, false},
	} {
		s, u, self := lets(t, row.word), address(t, row.address), address(t, row.self)
		checkUrl(t, s, u, self)
		if got := match.Url(s, u, self, false); got != row.still {
			t.Errorf("P10.3: Url of %s, %s and %s: %t", row.word, row.address, row.self, got)
		}
		if got := match.Url(s, u, self, true); got != row.moved {
			t.Errorf("P10.3: Url of %s, %s and %s, moved: %t", row.word, row.address, row.self, got)
		}
	}
}

// P10.3: words, addresses and pages, whose parts stand in lists, all with all, against the model.
func TestUrlRows(t *testing.T) {
	words := []string{"'self'", "http:", "https:", "ws:", "wss:", "data:", "x:", "'none'", "'unsafe-inline'", "'nonce-a'", "'strict-dynamic'"}
	for _, scheme := range []string{"", "http://", "https://", "ws://", "data://"} {
		for _, host := range []string{"*", "a.b", "*.b", "*.A.b"} {
			for _, port := range []string{"", ":*", ":80", ":443", ":81"} {
				for _, path := range []string{"", "/", "/x", "/x/"} {
					words = append(words, scheme+host+port+path)
				}
			}
		}
	}
	texts := []string{"data:x", "x:", "data://a.b/x", "javascript:f()"}
	for _, scheme := range []string{"http", "https", "ws", "wss"} {
		for _, host := range []string{"b", "a.b", "x.a.b", "aab"} {
			for _, port := range []string{"", ":80", ":443", ":81"} {
				for _, path := range []string{"", "/x?q", "/x/y"} {
					texts = append(texts, scheme+"://"+host+port+path)
				}
			}
		}
	}
	addresses := []api.URL{}
	for _, text := range texts {
		addresses = append(addresses, address(t, text))
	}
	selves := []api.URL{{}}
	for _, text := range []string{"http://a.b/", "https://a.b/x", "ws://a.b", "wss://b:81/", "http://x.a.b:81", "https://a.b:80", "data:x", "x:"} {
		selves = append(selves, address(t, text))
	}
	got := 0
	for _, word := range words {
		s := lets(t, word)
		for _, self := range selves {
			want := [2]string{}
			for at, moved := range []bool{false, true} {
				for _, u := range addresses {
					if match.Url(s, u, self, moved) {
						text, _ := url.Print(u)
						want[at] += text + "\n"
						got++
					}
				}
			}
			for at, moved := range []bool{false, true} {
				if told := modelLets(s, addresses, self, moved); told != want[at] {
					t.Fatalf("P10.3: what %s lets be, self being %+v, moved %t:\n%s, not\n%s", word, self, moved, want[at], told)
				}
			}
		}
	}
	if got < 10000 {
		t.Errorf("P10.3: only %d are let be", got)
	}
}

// P10.3: each kind, those that are none too: but three let nothing be, whatever else the source tells.
func TestUrlKinds(t *testing.T) {
	all := api.Source{Scheme: "http", Host: "", Wild: true, Port: -1, Text: "http://a/"}
	u := address(t, "http://a/")
	for _, kind := range []api.SourceKind{math.MinInt, -1, 0, 1, 2, 3, 4, 5, 6, 7, 8, 9, 10, 11, 12, 13, math.MaxInt} {
		s := all
		s.Kind = kind
		for _, moved := range []bool{false, true} {
			want := kind == api.SourceSelf || kind == api.SourceScheme || kind == api.SourceHost
			if got := match.Url(s, u, u, moved); got != want {
				t.Errorf("P10.3: Url of the kind %d, moved %t: %t", kind, moved, got)
			}
		}
	}
}

// P10.3: an address that is not right is let be by none.
func TestUrlWrong(t *testing.T) {
	sources := []api.Source{}
	for _, word := range []string{"'self'", "http:", "https:", "data:", "http://*:*", "*:*", "http://a:*", "a:*", "https://a", "data://*:*", "*.a"} {
		sources = append(sources, lets(t, word))
	}
	for at, u := range wrong {
		if url.Check(u) == api.OK {
			t.Fatalf("the address %d is right", at)
		}
		own := []api.Source{{Kind: api.SourceScheme, Scheme: u.Scheme}, {Kind: api.SourceHost, Host: u.Host, Scheme: u.Scheme, Port: -1}, {Kind: api.SourceHost, Wild: true, Port: -1}, {Kind: api.SourceHost, Host: u.Host, Port: u.Port, Path: u.Path}}
		for _, s := range append(own, sources...) {
			for _, self := range []api.URL{u, address(t, "http://a/"), address(t, "https://a/"), {}} {
				if match.Url(s, u, self, false) || match.Url(s, u, self, true) {
					t.Errorf("P10.3: Url(%+v, %+v, %+v) lets be", s, u, self)
				}
			}
		}
	}
}

// P10.3: of a self that is not right, nothing is let be as its own; of a SourceHost without a Scheme its scheme counts alone.
func TestSelfWrong(t *testing.T) {
	host, own := lets(t, "a"), api.Source{Kind: api.SourceSelf}
	for _, self := range wrong {
		for _, text := range []string{"http://a/", "https://a/", "ws://a/"} {
			u := address(t, text)
			if match.Url(own, u, self, false) || match.Url(own, u, self, true) {
				t.Errorf("P10.3: %s is let be as %+v's own", text, self)
			}
			want := match.Scheme(self.Scheme, u.Scheme)
			if match.Url(host, u, self, false) != want || match.Url(host, u, self, true) != want {
				t.Errorf("P10.3: %s is let be by its host, self being %+v: %t", text, self, !want)
			}
		}
	}
}

// P10.3, R4: sources that are not right (chapter 9) are taken as they are.
func TestSourceWrong(t *testing.T) {
	u, self := address(t, "http://x.a/y"), address(t, "http://b/")
	place := func(scheme, host string, wild bool, port int, path string) api.Source {
		return api.Source{Kind: api.SourceHost, Scheme: scheme, Host: host, Wild: wild, Port: port, Path: path}
	}
	for _, row := range []struct {
		s    api.Source
		want bool
	}{
		{place("", "X.A", false, 0, ""), true}, // a host's letters may be great
		{place("", "A", true, 0, ""), true},
		{place("", "", false, 0, ""), false},
		{place("", "", false, -1, ""), false},
		{place("", ".a", true, 0, ""), false},
		{place("HTTP", "x.a", false, 0, ""), false}, // a scheme's may not
		{place("http:", "x.a", false, 0, ""), false},
		{place("", "x.a", false, -2, ""), false},
		{place("", "x.a", false, math.MinInt, ""), false},
		{place("", "x.a", false, 65536, ""), false},
		{place("", "x.a", false, 0, "y"), false},
		{place("", "x.a", false, 0, "/y?"), false},
		{place("", "x.a", false, 0, "/y"), true},
		{api.Source{Kind: api.SourceHost, Host: "x.a", Text: "t"}, true},
		{api.Source{Kind: api.SourceScheme, Scheme: "http", Host: "b", Path: "/z", Port: 9}, true},
		{api.Source{Kind: api.SourceScheme}, false},
		{api.Source{Kind: api.SourceScheme, Scheme: "HTTP"}, false},
		{api.Source{Kind: api.SourceScheme, Scheme: "http:"}, false},
		{api.Source{Kind: api.SourceSelf, Scheme: "http", Host: "x.a"}, false},
	} {
		if got := match.Url(row.s, u, self, false); got != row.want {
			t.Errorf("P10.3: Url(%+v): %t", row.s, got)
		}
	}
}

// P10.4: a SourceHost without a Scheme lets just that be which it lets be with self's; and a wild one of all hosts and ports, each right address of self's scheme that is not opaque.
func TestFollows(t *testing.T) {
	texts := []string{"http://a/", "https://a/x", "ws://a.b:81/?q", "wss://x.a:9/", "http://x.a:443", "https://b:80/x/y", "data:x", "x:"}
	list := append([]api.URL{}, wrong...)
	for _, text := range texts {
		list = append(list, address(t, text))
	}
	all := lets(t, "*:*")
	for _, text := range texts {
		self := address(t, text)
		for _, u := range list {
			for _, moved := range []bool{false, true} {
				for _, word := range []string{"a", "*", "*:*", "*.a:9", "a/x", "b:80/x/", "*:443", "*.a:80", "a.b:81"} {
					s := lets(t, word)
					with := s
					with.Scheme = self.Scheme
					if match.Url(s, u, self, moved) != match.Url(with, u, self, moved) {
						t.Errorf("P10.4: %s without a scheme and with that of %s, of %+v", word, text, u)
					}
				}
				want := url.Check(u) == api.OK && !u.Opaque && match.Scheme(self.Scheme, u.Scheme)
				if got := match.Url(all, u, self, moved); got != want {
					t.Errorf("P10.4: *:* of %+v, self being %s: %t", u, text, got)
				}
			}
		}
	}
}

// P10.4: each port of an address, and each that a source tells.
func TestAllPorts(t *testing.T) {
	all, self := lets(t, "*:*"), address(t, "http://b/")
	for port := range 65536 {
		u := api.URL{Scheme: "http", Host: "a", Port: port, Path: "/"}
		s := api.Source{Kind: api.SourceHost, Host: "a", Port: port}
		right := port != 80
		if got := match.Url(all, u, self, false); got != right {
			t.Fatalf("P10.4: *:* of the port %d: %t", port, got)
		}
		if got := match.Url(s, u, self, false); got != right {
			t.Fatalf("P10.3: the port %d told and asked: %t", port, got)
		}
		u.Port = 443
		if got := match.Url(s, u, self, false); got != (port == 80 || port == 443) {
			t.Fatalf("P10.3: the port %d told, 443 asked: %t", port, got)
		}
	}
}

// R1, R4: long texts of any bytes, in each place.
func TestLong(t *testing.T) {
	bytes := make([]byte, 256)
	for n := range bytes {
		bytes[n] = byte(n)
	}
	for _, text := range []string{strings.Repeat(string(bytes), 2000), strings.Repeat("a.", 250000), strings.Repeat("/", 500000), strings.Repeat("A", 500000)} {
		if !match.Scheme(text, text) || match.Scheme(text, text+"s") {
			t.Errorf("P10.1: Scheme of a long text")
		}
		if !match.Host(api.Source{Host: text}, text) || match.Host(api.Source{Host: text, Wild: true}, text) || !match.Host(api.Source{Host: text, Wild: true}, text+"."+text) {
			t.Errorf("P10.1: Host of a long text")
		}
		if !match.Path(text, text, false) || match.Path(text, text[1:], false) || match.Path(text, text+"x", false) != strings.HasSuffix(text, "/") {
			t.Errorf("P10.2: Path of a long text")
		}
		u, self := address(t, "http://a/"), address(t, "http://a/")
		long := api.URL{Scheme: text, Host: text, Path: text, Query: text}
		for _, s := range []api.Source{{Kind: api.SourceHost, Host: text, Wild: true, Path: text}, {Kind: api.SourceScheme, Scheme: text}, {Kind: api.SourceHost, Scheme: text, Host: text}} {
			if match.Url(s, u, self, false) || match.Url(s, long, long, false) || match.Url(s, long, long, true) {
				t.Errorf("P10.3: a source of the kind %d with a long text lets be", s.Kind)
			}
		}
		if match.Url(api.Source{Kind: api.SourceSelf}, u, long, false) || !match.Url(api.Source{Kind: api.SourceSelf, Host: text}, u, self, false) {
			t.Errorf("P10.3: self of a long text")
		}
	}
}

// R2: what a call answers hangs on its arguments alone.
func TestAgain(t *testing.T) {
	s, u, self := lets(t, "*.a.b/x/"), address(t, "https://x.a.b/x/y"), address(t, "http://a")
	for _, text := range []string{"data:x", "http://a/", "wss://b:9/"} {
		other := address(t, text)
		match.Url(s, other, self, true)
		match.Url(s, u, other, false)
		match.Url(lets(t, "'self'"), other, other, false)
		if !match.Url(s, u, self, false) {
			t.Errorf("R2: after %s", text)
		}
	}
}
