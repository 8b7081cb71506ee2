package mark_test

import (
	"slices"
	"strings"
	"testing"

	"pounce/api"
	"pounce/mark"
)

// allBytes is each byte once.
func allBytes() string {
	all := make([]byte, 256)
	for n := range all {
		all[n] = byte(n)
	}
	return string(all)
}

// P3.1: the chapter's examples, and marks written out as their four numbers.
func TestOfExamples(t *testing.T) {
	for _, x := range []struct {
		text       string
		x, y, p, n int64
	}{
		{"", 7, 11, 77, 0},
		{"a", 1897, 721027, 367788212, 1},
		{"b", 1898, 721028, 368511137, 1},
		{"A", 1865, 720995, 344655668, 1}, // a letter's size plays a part
		{"ab", 487628, 255388323, 496296106, 2},
		{"ba", 487884, 255453861, 850647707, 2}, // and so does the order
		{"\x00", 1800, 720930, 297673993, 1},
		{"\x00\x00", 462601, 249030942, 961993735, 2},
		{"\xff", 2055, 721185, 482035168, 1},
		{"\xff\xff\xff\xff", 899762969, 580082542, 601429696, 4},
		{"ä", 512880, 261811211, 732957741, 2}, // two bytes, not the code point 228
		{"\uFFFD", 134723445, 842468967, 745329075, 3},
		{"a\xffb\x80", 217736813, 837787468, 976739287, 4}, // bytes of no code point stay
		{" a ", 121026987, 696686520, 808890157, 3},        // and so do blanks
		{"f()", 125635777, 368185169, 463390710, 3},
		{"alert(1)", 241990326, 568743231, 916570800, 8},
		{strings.Repeat("a", 1000), 468188446, 584005034, 410666315, 1000},
	} {
		want := four(x.x) + four(x.y) + four(x.p) + four(x.n)
		if m := mark.Of(x.text); m != want {
			t.Errorf("P3.1: Of(%.20q): %x, not %x", x.text, m, want)
		}
		if m := mark.Of("", x.text, ""); m != want {
			t.Errorf("P3.1: Of(none, %.20q, none): %x, not %x", x.text, m, want)
		}
	}
}

// P3.1: nothing at all is the empty text.
func TestOfNothing(t *testing.T) {
	want := "\x00\x00\x00\x07\x00\x00\x00\x0b\x00\x00\x00\x4d\x00\x00\x00\x00"
	for _, parts := range [][]string{nil, {}, {""}, {"", "", ""}} {
		if m := mark.Of(parts...); m != want {
			t.Errorf("P3.1: Of(%q): %x", parts, m)
		}
	}
	if m := mark.New().Mark(); m != want {
		t.Errorf("P3.1: the mark of nothing added: %x", m)
	}
}

// P3.1, P3.2: all short texts, against the model; each mark has 16 bytes.
func TestAgainstModel(t *testing.T) {
	eachInput(func(s string) {
		m := mark.Of(s)
		if m != modelOf(s) {
			t.Fatalf("P3.1: Of(%q): %x, not %x", s, m, modelOf(s))
		}
		if len(m) != 16 {
			t.Fatalf("P3.2: Of(%q) has %d bytes", s, len(m))
		}
	})
}

// P3.1, R1, R4: texts of any bytes, up to long ones, against the model.
func TestLong(t *testing.T) {
	s := strings.Repeat(allBytes()+"<script>f('Ä')</script>\xff", 20)
	for _, size := range []int{5, 255, 256, 257, 1000, 4095, len(s)} {
		if m := mark.Of(s[:size]); m != modelOf(s[:size]) {
			t.Errorf("P3.1: Of a text of %d bytes: %x, not %x", size, m, modelOf(s[:size]))
		}
	}
	for _, b := range []byte(edges) {
		for _, size := range []int{0, 1, 2, 3, 100, api.MaxText, 65536, 1000003} {
			if m := mark.Of(strings.Repeat(string([]byte{b}), size)); m != modelRow(b, int64(size)) {
				t.Errorf("P3.1: Of %d bytes %d: %x, not %x", size, b, m, modelRow(b, int64(size)))
			}
		}
	}
}

// P3.2: in which parts a text comes plays no part, whether they are told at once or added.
func TestParted(t *testing.T) {
	check := func(s string, parts ...string) {
		want := modelOf(s)
		if m := mark.Of(parts...); m != want {
			t.Fatalf("P3.2: Of(%q): %x, not %x", parts, m, want)
		}
		maker := mark.New()
		for _, part := range parts {
			if e := maker.Add(part); e != api.OK {
				t.Fatalf("P3.1: Add(%q): error %d", part, e)
			}
		}
		if m, n := maker.Mark(), maker.Count(); m != want || n != len(s) {
			t.Fatalf("P3.2: %q, added: %x, %d, not %x", parts, m, n, want)
		}
	}
	for count := range 4 {
		eachOf(edges, count, func(s string) {
			for a := range len(s) + 1 {
				for b := a; b <= len(s); b++ {
					check(s, s[:a], s[a:b], s[b:])
				}
			}
		})
	}
	for _, s := range []string{allBytes(), "a\xe2\x82\xac\xffb", strings.Repeat("ä", 50)} {
		for at := range len(s) + 1 {
			check(s, s[:at], s[at:])
			check(s, "", s[:at], "", "", s[at:], "")
		}
		single := []string{}
		for at := range len(s) {
			single = append(single, s[at:at+1])
		}
		check(s, single...)
	}
}

// P3.2: the order of the parts is the order of the text.
func TestPartsInOrder(t *testing.T) {
	if mark.Of("ab", "c") != mark.Of("a", "bc") || mark.Of("c", "ab") != mark.Of("cab") {
		t.Errorf("P3.2: a mark hangs on how the text is parted")
	}
	if mark.Of("ab", "c") == mark.Of("c", "ab") {
		t.Errorf("P3.1: a mark does not hang on the order of the parts")
	}
}

// P3.1: a maker tells its mark and its count whenever it is asked, and goes on as if it had not been.
func TestMakerSteps(t *testing.T) {
	m, added := mark.New(), ""
	for _, part := range []string{"", "a", "", "\x00", "ä\xff", " b ", strings.Repeat("c", 300), ""} {
		for range 2 {
			if d, n := m.Mark(), m.Count(); d != modelOf(added) || n != len(added) {
				t.Errorf("P3.1: of %.20q: %x, %d, not %x", added, d, n, modelOf(added))
			}
		}
		if e := m.Add(part); e != api.OK {
			t.Errorf("P3.1: Add(%q): error %d", part, e)
		}
		added += part
	}
	if d, n := m.Mark(), m.Count(); d != modelOf(added) || n != 308 {
		t.Errorf("P3.1: of all: %x, %d, not %x", d, n, modelOf(added))
	}
}

// R1: a maker that New has not made is one to which nothing was added.
func TestPlainMaker(t *testing.T) {
	var m mark.Maker
	if d, n := m.Mark(), m.Count(); d != modelOf("") || n != 0 {
		t.Errorf("R1: of a plain maker: %x, %d", d, n)
	}
	if e := m.Add("ab"); e != api.OK || m.Mark() != modelOf("ab") || m.Count() != 2 {
		t.Errorf("R1: of a plain maker with two bytes: %d, %x, %d", e, m.Mark(), m.Count())
	}
}

// R3: a Maker that is none.
func TestNoMaker(t *testing.T) {
	var m *mark.Maker
	for _, s := range []string{"", "a", "\xff"} {
		if e := m.Add(s); e != api.ErrNil {
			t.Errorf("R3: Add(%q) to no maker: error %d", s, e)
		}
		if d, n := m.Mark(), m.Count(); d != "" || n != 0 {
			t.Errorf("R3: of no maker: %x, %d", d, n)
		}
	}
}

// R2: makers know nothing of one another.
func TestMakersApart(t *testing.T) {
	a, b := mark.New(), mark.New()
	if a == nil || b == nil || a == b {
		t.Fatalf("P3.1: New does not answer a maker of its own")
	}
	for at := range 3 {
		a.Add("abc"[at : at+1])
		b.Add("\xff\x00 "[at : at+1])
		mark.Of("x", "y")
	}
	if a.Mark() != modelOf("abc") || b.Mark() != modelOf("\xff\x00 ") || mark.New().Count() != 0 {
		t.Errorf("R2: %x %x", a.Mark(), b.Mark())
	}
}

// R2: what is handed in stays as it is, and what was told stays as it was told.
func TestHandedIn(t *testing.T) {
	parts := []string{"a", "", "b"}
	m := mark.Of(parts...)
	if !slices.Equal(parts, []string{"a", "", "b"}) {
		t.Errorf("R2: Of left %q", parts)
	}
	maker := mark.New()
	maker.Add("ab")
	told := maker.Mark()
	parts[0] = "z"
	maker.Add("c")
	if m != modelOf("ab") || told != m || mark.Of("ab") != m {
		t.Errorf("R2: what was told is now %x and %x", m, told)
	}
}

// P3.2: texts of unlike lengths have unlike marks, whatever they have.
func TestUnlikeLengths(t *testing.T) {
	for _, b := range []byte(edges) {
		lengths, m := map[string]int{}, mark.New()
		for size := range 5000 {
			d := m.Mark()
			if other, ok := lengths[d[12:]]; ok || d[12:] != four(int64(size)) {
				t.Fatalf("P3.2: %d bytes %d end in %x, as %d bytes", size, b, d[12:], other)
			}
			lengths[d[12:]] = size
			m.Add(string([]byte{b}))
		}
	}
}

// P3.1, P3.2: at the greatest length that is promised to be told apart, and at those from which on what is left begins anew.
func TestGreatestLengths(t *testing.T) {
	m, part := mark.New(), strings.Repeat("a", 1000000)
	for range 1000 {
		m.Add(part)
	}
	for _, x := range []struct {
		add  string
		left int64
	}{{"", 1000000000}, {"aaaaaa", 1000000006}, {"a", 0}, {"a", 1}} {
		m.Add(x.add)
		d := m.Mark()
		if d != modelRow('a', int64(m.Count())) || d[12:] != four(x.left) {
			t.Errorf("P3.1: the mark of %d bytes: %x", m.Count(), d)
		}
	}
	if n := m.Count(); n != 1000000008 {
		t.Errorf("P3.1: Count of 1000000008 bytes: %d", n)
	}
}
