package origin_test

import (
	"math"
	"slices"
	"strings"
	"testing"

	"pounce/api"
	"pounce/origin"
	"pounce/url"
)

// address answers what a text that must be right is parsed as.
func address(t *testing.T, text string) api.URL {
	t.Helper()
	u, e := url.Parse(text)
	if e != api.OK {
		t.Fatalf("%q is no address: %d", text, e)
	}
	return u
}

// place answers an origin that is not opaque.
func place(scheme, host string, port int) api.Origin {
	return api.Origin{Scheme: scheme, Host: host, Port: port}
}

// wrong are addresses that are not right, each by one of its parts.
var wrong = []api.URL{
	{},
	{Scheme: "https"},
	{Scheme: "https", Host: "a"},
	{Scheme: "https", Path: "/"},
	{Host: "a", Path: "/"},
	{Host: "a", Port: 443, Path: "/"},
	{Scheme: "ftp", Host: "a", Path: "/"},
	{Scheme: "ftp", Host: "a", Port: 21, Path: "/"},
	{Scheme: "data", Path: "x"},
	{Scheme: "HTTPS", Host: "a", Path: "/"},
	{Scheme: "Wss", Host: "a", Path: "/"},
	{Scheme: "https:", Host: "a", Path: "/"},
	{Scheme: "https", Host: "A", Path: "/"},
	{Scheme: "wss", Host: "a..b", Path: "/"},
	{Scheme: "wss", Host: ".a", Path: "/"},
	{Scheme: "https", Host: "a:444", Path: "/"},
	{Scheme: "https", Host: "*", Path: "/"},
	{Scheme: "https", Host: "\xff", Path: "/"},
	{Scheme: "http", Host: "a", Port: 80, Path: "/"}, // an address tells its scheme's own port as 0
	{Scheme: "https", Host: "a", Port: 443, Path: "/"},
	{Scheme: "ws", Host: "a", Port: 80, Path: "/"},
	{Scheme: "wss", Host: "a", Port: 443, Path: "/"},
	{Scheme: "https", Host: "a", Port: -1, Path: "/"},
	{Scheme: "wss", Host: "a", Port: 65536, Path: "/"},
	{Scheme: "https", Host: "a", Port: math.MaxInt, Path: "/"},
	{Scheme: "https", Host: "a", Port: math.MinInt, Path: "/"},
	{Scheme: "https", Host: "a", Path: "x"},
	{Scheme: "https", Host: "a", Path: "/x/../y"},
	{Scheme: "wss", Host: "a", Path: "/x y"},
	{Scheme: "wss", Host: "a", Path: "/\xff"},
	{Scheme: "https", Host: "a", Path: "/", Query: "q"},
	{Scheme: "https", Host: "a", Path: "/", Query: "?#"},
	{Scheme: "https", Host: strings.Repeat("a", api.MaxHost+1), Path: "/"},
	{Scheme: "https", Host: "a", Path: "/" + strings.Repeat("x", api.MaxUrl)},
	{Opaque: true},
	{Opaque: true, Scheme: "https"},
	{Opaque: true, Scheme: "https", Path: "//a/"},
	{Opaque: true, Scheme: "https", Host: "a", Path: "/"}, // what would be right, if it were not opaque
	{Opaque: true, Scheme: "wss", Host: "a", Port: 444, Path: "/", Query: "?q"},
	{Opaque: true, Scheme: "data", Host: "a", Path: "x"},
	{Opaque: true, Scheme: "Data", Path: "x"},
}

// opaques are texts of addresses that are right, but opaque.
var opaques = []string{"data:x", "data:", "javascript:f()", "blob:https://a/", "a://b/", "httpss://a/", "file:///x", "z9+-.:a:1", "about:blank", "data:" + strings.Repeat("x", api.MaxUrl-5)}

// nowhere answers addresses that come from nowhere that can be named.
func nowhere(t *testing.T) []api.URL {
	t.Helper()
	list := slices.Clone(wrong)
	for _, text := range opaques {
		list = append(list, address(t, text))
	}
	return list
}

// checkOf holds an address' origin against the model, and against what follows from the promises.
func checkOf(t *testing.T, u api.URL) api.Origin {
	t.Helper()
	o := origin.Of(u)
	if want := modelOf(u); o != want {
		t.Errorf("P7.1: Of(%+v): %+v, not %+v", u, o, want)
	}
	if o.Opaque && o != (api.Origin{Opaque: true}) {
		t.Errorf("P7.1: Of(%+v): %+v is not empty", u, o)
	}
	if safe := origin.Secure(u); safe != modelSecure(u) {
		t.Errorf("P7.1: Secure(%+v): %t", u, safe)
	}
	if same := origin.Same(o, o); same == o.Opaque {
		t.Errorf("P7.3: Same of %+v, and it: %t", o, same)
	}
	checkText(t, o)
	return o
}

func checkText(t *testing.T, o api.Origin) {
	t.Helper()
	if text := origin.Text(o); text != modelText(o) {
		t.Errorf("P7.2: Text(%+v): %q, not %q", o, text, modelText(o))
	}
}

// P7.1, P7.2: the chapter's examples, and addresses written out by hand.
func TestOf(t *testing.T) {
	for _, row := range []struct {
		address string
		text    string
		want    api.Origin
	}{
		{"https://a.b/x", "https://a.b", place("https", "a.b", 443)},
		{"https://a.b:444/", "https://a.b:444", place("https", "a.b", 444)},
		{"data:x", "null", api.Origin{Opaque: true}},
		{"http://a/", "http://a", place("http", "a", 80)},
		{"ws://a/", "ws://a", place("ws", "a", 80)},
		{"wss://a/", "wss://a", place("wss", "a", 443)},
		{"http://a:80/", "http://a", place("http", "a", 80)},
		{"https://a:443/", "https://a", place("https", "a", 443)},
		{"https://a:0/", "https://a", place("https", "a", 443)},
		{"http://a:443/", "http://a:443", place("http", "a", 443)}, // another scheme's own port
		{"https://a:80/", "https://a:80", place("https", "a", 80)},
		{"wss://a:80/", "wss://a:80", place("wss", "a", 80)},
		{"ws://a:443/", "ws://a:443", place("ws", "a", 443)},
		{"http://a:1", "http://a:1", place("http", "a", 1)},
		{"http://a:65535", "http://a:65535", place("http", "a", 65535)},
		{"HTTP://A.B:00081/X?Y#Z", "http://a.b:81", place("http", "a.b", 81)},
		{"ws://0-.-9:8/:9//?//b:10", "ws://0-.-9:8", place("ws", "0-.-9", 8)},
		{"https://x.a.b/", "https://x.a.b", place("https", "x.a.b", 443)},
		{"javascript://a/", "null", api.Origin{Opaque: true}},
	} {
		u := address(t, row.address)
		o := checkOf(t, u)
		if o != row.want {
			t.Errorf("P7.1: Of(%s): %+v, not %+v", row.address, o, row.want)
		}
		if text := origin.Text(o); text != row.text {
			t.Errorf("P7.2: Text of %s: %q, not %q", row.address, text, row.text)
		}
	}
}

// P7.1: opaque addresses, and those that are not right: no field tells of them.
func TestOfOpaque(t *testing.T) {
	for _, u := range nowhere(t) {
		o := checkOf(t, u)
		if o != (api.Origin{Opaque: true}) || origin.Text(o) != "null" {
			t.Errorf("P7.1: Of(%+v): %+v", u, o)
		}
		if origin.Secure(u) {
			t.Errorf("P7.1: Secure(%+v)", u)
		}
	}
}

// P7.1: what is secure hangs on the scheme, not on the port.
func TestSecure(t *testing.T) {
	for _, behind := range []string{"", ":80", ":443", ":1", ":65535", "/x?q", "/https://a/"} {
		for scheme, want := range map[string]bool{"https": true, "wss": true, "http": false, "ws": false} {
			if u := address(t, scheme+"://a"+behind); origin.Secure(u) != want {
				t.Errorf("P7.1: Secure(%+v): %t", u, !want)
			}
		}
	}
}

// P7.1, P7.2: the ports around the least one and around the greatest one that an address may have, of each scheme.
func TestPorts(t *testing.T) {
	for near := range 1000 {
		for _, port := range []int{near - 2, 65537 - near} {
			for scheme, own := range modelPorts {
				u := api.URL{Scheme: scheme, Host: "a", Port: port, Path: "/"}
				o := checkOf(t, u)
				if right := 0 <= port && port <= 65535 && port != own; o.Opaque == right {
					t.Errorf("P7.1: Of(%+v): %+v", u, o)
				}
				checkText(t, place(scheme, "a", port))
			}
		}
	}
}

// P7.1: each byte, at places of an address' parts.
func TestEachByte(t *testing.T) {
	for n := range 256 {
		c := string([]byte{byte(n)})
		for _, scheme := range []string{"http", "https", "ws", "wss"} {
			for _, u := range []api.URL{
				{Scheme: scheme + c, Host: "a", Path: "/"},
				{Scheme: c + scheme, Host: "a", Path: "/"},
				{Scheme: scheme, Host: c, Path: "/"},
				{Scheme: scheme, Host: "a" + c, Path: "/"},
				{Scheme: scheme, Host: "a" + c + "b", Port: 81, Path: "/"},
				{Scheme: scheme, Host: "a", Path: c},
				{Scheme: scheme, Host: "a", Path: "/" + c, Query: "?q"},
				{Scheme: scheme, Host: "a", Path: "/", Query: c},
				{Scheme: scheme, Host: "a", Path: "/", Query: "?" + c},
				{Opaque: true, Scheme: scheme + c, Path: "//a/"},
				{Opaque: true, Scheme: "data", Path: "x" + c},
			} {
				checkOf(t, u)
			}
			checkText(t, place(scheme+c, c, n))
		}
	}
}

// P7.2: origins of any texts and numbers: each one is the same as itself alone, an opaque one as none.
func TestSame(t *testing.T) {
	list := []api.Origin{}
	for _, scheme := range []string{"", "http", "https", "ws", "HTTP", "x", "\xff"} {
		for _, host := range []string{"", "a", "A", "a.b", "b", "a:80", "\x00"} {
			for _, port := range []int{0, 80, 443, 81, -1, -80, 65536, math.MaxInt, math.MinInt} {
				for _, opaque := range []bool{false, true} {
					list = append(list, api.Origin{Opaque: opaque, Scheme: scheme, Host: host, Port: port})
				}
			}
		}
	}
	for at, a := range list {
		for other, b := range list {
			want := at == other && !a.Opaque
			if modelSame(a, b) != want {
				t.Fatalf("the model of P7.2: Same(%+v, %+v): %t", a, b, !want)
			}
			if origin.Same(a, b) != want {
				t.Fatalf("P7.2: Same(%+v, %+v): %t", a, b, !want)
			}
		}
		checkText(t, a)
	}
}

// P7.2: texts, written out by hand, of origins that no address has, too.
func TestText(t *testing.T) {
	for text, list := range map[string][]api.Origin{
		"null":                            {{Opaque: true}, {Opaque: true, Scheme: "http", Host: "a", Port: 80}, {Opaque: true, Scheme: "https", Host: "a", Port: 1}, {Opaque: true, Port: -1}},
		"http://a":                        {place("http", "a", 80)},
		"https://a":                       {place("https", "a", 443)},
		"ws://a":                          {place("ws", "a", 80)},
		"wss://a":                         {place("wss", "a", 443)},
		"http://a:443":                    {place("http", "a", 443)},
		"wss://a.b:80":                    {place("wss", "a.b", 80)},
		"https://a:1":                     {place("https", "a", 1)},
		"http://a:0":                      {place("http", "a", 0)}, // an origin's port is told as it is
		"http://a:-80":                    {place("http", "a", -80)},
		"https://a:-1":                    {place("https", "a", -1)},
		"http://a:65536":                  {place("http", "a", 65536)},
		"http://a:9223372036854775807":    {place("http", "a", math.MaxInt64)},
		"https://a:-9223372036854775808":  {place("https", "a", math.MinInt64)},
		"x://a":                           {place("x", "a", 0)}, // of such a scheme chapter 5 tells 0
		"x://a:80":                        {place("x", "a", 80)},
		"HTTP://A:80":                     {place("HTTP", "A", 80)},
		"://":                             {{}},
		"://:443":                         {place("", "", 443)},
		"\xff://\x00 :7":                  {place("\xff", "\x00 ", 7)},
		"http://a:80:81":                  {place("http", "a:80", 81)},
		"http://a:80":                     {place("http", "a:80", 80)},
		strings.Repeat("s", 999) + "://b": {place(strings.Repeat("s", 999), "b", 0)},
	} {
		for _, o := range list {
			if s := origin.Text(o); s != text {
				t.Errorf("P7.2: Text(%+v): %q, not %q", o, s, text)
			}
			checkText(t, o)
		}
	}
}

// P7.3: addresses have one origin just where they have the same scheme, host and port, whatever stands behind these; their origins' texts tell them apart too.
func TestSamePlace(t *testing.T) {
	type row struct {
		place string
		u     api.URL
		o     api.Origin
	}
	rows := []row{}
	for _, scheme := range []string{"http", "https", "ws", "wss"} {
		for _, host := range []string{"a", "b", "a.b", "x.a.b", "80"} {
			for _, port := range []string{":80", ":443", ":81"} {
				for _, behind := range []string{"", "/", "/x", "/x/y?q", "?q", "?https://a:81/", "//b:81/"} {
					u := address(t, scheme+"://"+host+port+behind)
					rows = append(rows, row{scheme + "://" + host + port, u, checkOf(t, u)})
				}
			}
		}
	}
	for _, a := range rows {
		for _, b := range rows {
			want := a.place == b.place
			if same := origin.Same(a.o, b.o); same != want {
				t.Fatalf("P7.3: Same of %+v and %+v: %t", a.u, b.u, same)
			}
			if told := origin.Text(a.o) == origin.Text(b.o); told != want {
				t.Fatalf("P7.2: the texts of %+v and %+v: %t", a.u, b.u, told)
			}
		}
		if back := origin.Of(address(t, origin.Text(a.o))); !origin.Same(back, a.o) {
			t.Fatalf("P7.2: the text of %+v: %+v", a.o, back)
		}
	}
}

// P7.2, P7.3: an address that is opaque, or not right, comes from nowhere that can be named: it is not even the same as itself.
func TestSameOpaque(t *testing.T) {
	list := append([]api.URL{address(t, "https://a/")}, nowhere(t)...)
	for at, u := range list {
		for other, v := range list {
			if same := origin.Same(origin.Of(u), origin.Of(v)); same != (at == 0 && other == 0) {
				t.Errorf("P7.3: Same of %+v and %+v: %t", u, v, same)
			}
		}
	}
}

// P7.1: the limits of hosts and of addresses' texts.
func TestLimits(t *testing.T) {
	long := strings.Repeat("x", 600)
	for size := range 600 {
		for _, u := range []api.URL{
			{Scheme: "https", Host: long[:size], Path: "/"},
			{Scheme: "wss", Host: "a", Port: 81, Path: "/" + long[:size]},
			{Scheme: "https", Host: "a", Path: "/", Query: "?" + long[:size]},
			{Opaque: true, Scheme: "data", Path: long[:size]},
		} {
			checkOf(t, u)
		}
		u := api.URL{Scheme: "https", Host: "a", Path: "/" + long[:size]} // its text has size + 10 bytes
		right := size+10 <= api.MaxUrl
		if o := origin.Of(u); o.Opaque == right || origin.Secure(u) != right {
			t.Errorf("P7.1: Of a text of %d bytes: %+v, secure %t", size+10, o, origin.Secure(u))
		}
	}
}

// R1, R4: long texts of any bytes, in each part.
func TestLong(t *testing.T) {
	long := strings.Repeat("a\xff/../:?#", 100000)
	for _, u := range []api.URL{
		{Scheme: long}, {Scheme: long, Host: long, Path: long, Query: long}, {Scheme: "https", Host: long, Path: "/"}, {Scheme: "https", Host: "a", Path: "/" + long},
		{Scheme: "wss", Host: "a", Path: "/", Query: "?" + long}, {Opaque: true, Scheme: "data", Path: long}, {Opaque: true, Scheme: long},
	} {
		if o := origin.Of(u); o != (api.Origin{Opaque: true}) || origin.Secure(u) {
			t.Errorf("P7.1: Of a long address: %.99q, %.99q", o.Scheme, o.Host)
		}
	}
	o := place(long, long, math.MinInt)
	if origin.Text(o) != modelText(o) || !origin.Same(o, place(strings.Clone(long), strings.Clone(long), math.MinInt)) || origin.Same(o, place(long, long+"a", math.MinInt)) {
		t.Errorf("P7.2: a long origin")
	}
}

// R2: what a call answers hangs on its arguments alone, and stays as it was told.
func TestAgain(t *testing.T) {
	u := address(t, "https://a.b:444/x?q")
	o, text := origin.Of(u), origin.Text(origin.Of(u))
	for _, other := range append([]api.URL{address(t, "http://c/")}, nowhere(t)...) {
		origin.Secure(other)
		origin.Text(origin.Of(other))
		origin.Same(o, origin.Of(other))
	}
	if o != place("https", "a.b", 444) || text != "https://a.b:444" || u != address(t, "https://a.b:444/x?q") {
		t.Errorf("R2: %+v, %q of %+v", o, text, u)
	}
	if again := origin.Of(u); again != o || origin.Text(again) != text || !origin.Secure(u) || !origin.Same(again, o) {
		t.Errorf("R2: %+v, and again %+v", o, again)
	}
}
