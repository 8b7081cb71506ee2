package utf_test

import (
	"math"
	"slices"
	"strings"
	"testing"

	"pounce/api"
	"pounce/utf"
)

// P1.1: the chapter's examples, and inputs written out by hand.
func TestDecodeExamples(t *testing.T) {
	for _, x := range [][2]string{
		{"", ""},
		{"a<b>", "a<b>"},
		{"\x00\n\x7f", "\x00\n\x7f"},
		{"a\xc3\xa4", "a\xc3\xa4"},
		{"\xc3a", odd + "a"},
		{"\xed\xa0\x80", odd + odd + odd},                        // 55296
		{"\xed\xbf\xbf", odd + odd + odd},                        // 57343
		{"\xed\x9f\xbf", "\xed\x9f\xbf"},                         // 55295
		{"\xee\x80\x80", "\xee\x80\x80"},                         // 57344
		{"\xf4\x8f\xbf\xbf", "\xf4\x8f\xbf\xbf"},                 // 1114111
		{"\xf4\x90\x80\x80", odd + odd + odd + odd},              // 1114112
		{"\xc0\x80", odd + odd},                                  // 0, too long
		{"\xc1\xbf", odd + odd},                                  // 127, too long
		{"\xe0\x9f\xbf", odd + odd + odd},                        // 2047, too long
		{"\xf0\x8f\xbf\xbf", odd + odd + odd + odd},              // 65535, too long
		{"\x80", odd},                                            // nothing ahead
		{"\xf0\x9f\x98", odd + odd + odd},                        // one byte missing
		{"\xf0\x9f\x98a", odd + odd + odd + "a"},                 // and another one there
		{"\xe2\x82\xc3\xa4", odd + odd + "\xc3\xa4"},             // cut off by a code point
		{"\xff\xfe", odd + odd},                                  // bytes of no code point
		{"\xef\xbb\xbfa", "\xef\xbb\xbfa"},                       // 65279 is a code point as others are
		{odd + "\xff" + odd, odd + odd + odd},                    // 65533 itself
		{"\xef\xbf\xbe\xef\xbf\xbf", "\xef\xbf\xbe\xef\xbf\xbf"}, // 65534, 65535
	} {
		if s := utf.Decode([]byte(x[0])); s != x[1] {
			t.Errorf("P1.1: Decode(%q): %q, not %q", x[0], s, x[1])
		}
	}
	if s := utf.Decode(nil); s != "" {
		t.Errorf("P1.1: Decode of nothing: %q", s)
	}
}

// P1.1, P1.2, P1.4: every code point there is.
func TestEachPoint(t *testing.T) {
	eachPoint(func(n int) {
		b := modelBytes(n)
		if s := utf.Decode([]byte(b)); s != b {
			t.Errorf("P1.1: Decode(%q): %q", b, s)
		}
		if p := utf.Points(b); len(p) != 1 || p[0] != n {
			t.Errorf("P1.2: Points(%q): %v", b, p)
		}
		if s, e := utf.Text([]int{n}); s != b || e != api.OK {
			t.Errorf("P1.2: Text(%d): %q, %d", n, s, e)
		}
	})
}

// P1.1, P1.2, P1.4: all pairs of bytes, and all rows of up to four of those at which a form begins or ends.
func TestAgainstModel(t *testing.T) {
	check := func(s string) {
		text, points := modelDecode(s)
		if d := utf.Decode([]byte(s)); d != text {
			t.Fatalf("P1.1: Decode(%q): %q, not %q", s, d, text)
		}
		if p := utf.Points(s); !slices.Equal(p, points) {
			t.Fatalf("P1.2: Points(%q): %v, not %v", s, p, points)
		}
		if d, e := utf.Text(points); d != text || e != api.OK {
			t.Fatalf("P1.2: Text(%v): %q, %d, not %q", points, d, e, text)
		}
		if d := utf.Decode([]byte(text)); d != text {
			t.Fatalf("P1.4: Decode(%q): %q", text, d)
		}
	}
	for a := range 256 {
		for b := range 256 {
			check(string([]byte{byte(a), byte(b)}))
		}
	}
	for count := range 5 {
		eachOf(edges, count, check)
	}
}

// P1.2: lists of code points, and numbers that are none.
func TestText(t *testing.T) {
	for _, x := range []struct {
		points []int
		text   string
	}{
		{nil, ""},
		{[]int{}, ""},
		{[]int{97, 228}, "a\xc3\xa4"},
		{[]int{65533, 97}, odd + "a"},
		{[]int{0, 127, 128, 2047, 2048, 65535, 65536}, "\x00\x7f\xc2\x80\xdf\xbf\xe0\xa0\x80\xef\xbf\xbf\xf0\x90\x80\x80"},
		{[]int{55295, 57344, 1114111}, "\xed\x9f\xbf\xee\x80\x80\xf4\x8f\xbf\xbf"},
	} {
		if s, e := utf.Text(x.points); s != x.text || e != api.OK {
			t.Errorf("P1.2: Text(%v): %q, %d", x.points, s, e)
		}
		if p := utf.Points(x.text); !slices.Equal(p, x.points) {
			t.Errorf("P1.4: Points(%q): %v", x.text, p)
		}
	}
	for _, n := range []int{
		-1, -97, 55296, 56320, 57343, 1114112, 2097152, 1<<32 + 97, -1<<32 + 97,
		math.MaxInt32, math.MinInt32, math.MaxInt, math.MinInt,
	} {
		for _, p := range [][]int{{n}, {97, n}, {n, 97}, {97, n, 228}} {
			if s, e := utf.Text(p); s != "" || e != api.ErrArg {
				t.Errorf("P1.2: Text(%v): %q, %d", p, s, e)
			}
		}
	}
}

// readParts feeds s to r, cut at these places, and answers all that is told, the End too.
func readParts(t *testing.T, r *utf.Reader, s string, cuts ...int) string {
	told, from := "", 0
	for _, to := range append(cuts, len(s)) {
		d, e := r.Feed([]byte(s[from:to]))
		if e != api.OK {
			t.Fatalf("P1.3: Feed(%q): error %d", s[from:to], e)
		}
		told, from = told+d, to
		if !toldEnough(told, s[:from]) {
			t.Fatalf("P1.3: of %q, cut at %v, %q is told behind %d bytes", s, cuts, told, from)
		}
	}
	d, e := r.End()
	if e != api.OK {
		t.Fatalf("P1.3: End behind %q: error %d", s, e)
	}
	return told + d
}

// toldEnough says whether told is fed, decoded, but for at most three bytes at its end.
func toldEnough(told, fed string) bool {
	for left := range min(len(fed), 3) + 1 {
		if text, _ := modelDecode(fed[:len(fed)-left]); text == told {
			return true
		}
	}
	return false
}

// P1.3: however bytes are parted, one Reader tells the whole, again and again.
func TestReaderParts(t *testing.T) {
	r := utf.New()
	check := func(s string, cuts ...int) {
		text, _ := modelDecode(s)
		if d := readParts(t, r, s, cuts...); d != text {
			t.Fatalf("P1.3: %q, cut at %v: %q, not %q", s, cuts, d, text)
		}
	}
	for count := range 4 {
		eachOf(edges, count, func(s string) {
			for a := range len(s) + 1 {
				for b := a; b <= len(s); b++ {
					check(s, a, b)
				}
			}
		})
	}
	for _, s := range []string{
		"a\xf0\x9f\x98\x80b", "\xf0\x9f\x98\xf0\x9f\x98\x80", "\xed\xa0\x80\xe2\x82", "\xf4\x90\x80\x80", "\xe2\xe2\xe2\x82\xac", odd + "\xef\xbf",
		strings.Repeat("\xe2\x82\xac\xff\xc3", 20),
	} {
		single := []int{}
		for a := range len(s) {
			single = append(single, a)
			check(s, a)
			check(s, a, a, a)
		}
		check(s, single...)
	}
}

// P1.3: what is told now, what is told at the end, and that it begins anew.
func TestReaderByHand(t *testing.T) {
	for _, r := range []*utf.Reader{utf.New(), new(utf.Reader)} {
		for _, x := range []struct{ fed, told, end string }{
			{"", "", ""},
			{"ab", "ab", ""},
			{"a\xc3", "a", odd},
			{"\xa4", odd, ""}, // 195 before the End is gone
			{"\xf0\x9f\x98", "", odd + odd + odd},
			{"a\xf0\x9f", "a", odd + odd},
			{"b", "b", ""},
		} {
			d, e := r.Feed([]byte(x.fed))
			if f, g := r.End(); d+f != x.told+x.end || e != api.OK || g != api.OK {
				t.Errorf("P1.3: %q: %q, %d, at the end %q, %d", x.fed, d, e, f, g)
			}
			if d, e := r.End(); d != "" || e != api.OK {
				t.Errorf("P1.3: a second End behind %q: %q, %d", x.fed, d, e)
			}
		}
	}
}

// P1.3, R2: one Reader knows nothing of another one.
func TestReadersApart(t *testing.T) {
	a, b := utf.New(), utf.New()
	told := [2]string{}
	for at := range 3 {
		c, _ := a.Feed([]byte("\xe2\x82\xac"[at : at+1]))
		d, _ := b.Feed([]byte("\xc3\xa4\xc3"[at : at+1]))
		told[0], told[1] = told[0]+c, told[1]+d
	}
	c, _ := a.End()
	d, _ := b.End()
	if told[0]+c != "\xe2\x82\xac" || told[1]+d != "\xc3\xa4"+odd {
		t.Errorf("P1.3: %q %q", told[0]+c, told[1]+d)
	}
}

// P1.4: Text and Points undo one another.
func TestUndo(t *testing.T) {
	var all []int
	eachPoint(func(n int) { all = append(all, n) })
	s, e := utf.Text(all)
	if e != api.OK || !slices.Equal(utf.Points(s), all) {
		t.Errorf("P1.4: Points of Text of all code points are not these")
	}
	if utf.Decode([]byte(s)) != s {
		t.Errorf("P1.4: all code points are not decoded as themselves")
	}
	if d := readParts(t, utf.New(), s[len(s)-40:], 7, 7, 9, 22); d != s[len(s)-40:] {
		t.Errorf("P1.4: read as %q", d)
	}
}

// R2: what is handed in stays, and is not kept; lists that come out share nothing.
func TestHandedIn(t *testing.T) {
	b := []byte("a\xff\xc3\xa4")
	d := utf.Decode(b)
	if string(b) != "a\xff\xc3\xa4" {
		t.Errorf("R2: Decode left %q", b)
	}
	b[0] = 'z'
	if d != "a"+odd+"\xc3\xa4" {
		t.Errorf("R2: what was decoded is now %q", d)
	}
	p := []int{97, 228}
	if utf.Text(p); !slices.Equal(p, []int{97, 228}) {
		t.Errorf("R2: Text left %v", p)
	}
	first, second := utf.Points("ab"), utf.Points("ab")
	first[0] = 0
	if _ = append(first[:1], 0); !slices.Equal(second, []int{97, 98}) || !slices.Equal(utf.Points("ab"), second) {
		t.Errorf("R2: lists of points share memory: %v", second)
	}
	r, part := utf.New(), []byte("x\xe2\x82")
	c, _ := r.Feed(part)
	if string(part) != "x\xe2\x82" {
		t.Errorf("R2: Feed left %q", part)
	}
	clear(part)
	if d, _ := r.Feed([]byte("\xac")); c+d != "x\xe2\x82\xac" {
		t.Errorf("R2: the Reader kept what it was handed: %q", c+d)
	}
}

// R3: a nil Reader answers ErrNil, and nothing else.
func TestNilReader(t *testing.T) {
	var r *utf.Reader
	for _, b := range [][]byte{nil, {}, []byte("a"), []byte("\xc3")} {
		if s, e := r.Feed(b); s != "" || e != api.ErrNil {
			t.Errorf("R3: Feed(%q): %q, %d", b, s, e)
		}
		if s, e := r.End(); s != "" || e != api.ErrNil {
			t.Errorf("R3: End: %q, %d", s, e)
		}
	}
}
