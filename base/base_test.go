package base_test

import (
	"encoding/base64"
	"strings"
	"testing"

	"pounce/base"
)

// allBytes is each byte once.
func allBytes() string {
	all := make([]byte, 256)
	for n := range all {
		all[n] = byte(n)
	}
	return string(all)
}

// allSigns is each sign that is written, in order.
const allSigns = "ABCDEFGHIJKLMNOPQRSTUVWXYZabcdefghijklmnopqrstuvwxyz0123456789+/"

// P4.1: the chapter's examples, and texts written out by hand.
func TestEncodeExamples(t *testing.T) {
	for _, x := range [][2]string{
		{"", ""},
		{"a", "YQ=="},
		{"ab", "YWI="},
		{"abc", "YWJj"},
		{"abcd", "YWJjZA=="},
		{"abcde", "YWJjZGU="},
		{"abcdef", "YWJjZGVm"},
		{"\xff\xfe\xfd", "//79"},
		{"\xff\xee\xfd", "/+79"},
		{"\x00", "AA=="},
		{"\x00\x00", "AAA="},
		{"\x00\x00\x00", "AAAA"},
		{"\xff", "/w=="},
		{"\xff\xff", "//8="},
		{"\xff\xff\xff", "////"},
		{"\x01", "AQ=="},
		{"\x00\x01", "AAE="},
		{"\x80\x00\x00", "gAAA"},
		{" a\n", "IGEK"},
		{"ä", "w6Q="}, // two bytes, not the code point 228
		{"\xe4", "5A=="},
		{"YQ==", "WVE9PQ=="}, // what is encoded already is a text as others are
		{strings.Repeat("\x00\x10\x83", 3), "ABCDABCDABCD"},
	} {
		if s := base.Encode(x[0]); s != x[1] {
			t.Errorf("P4.1: Encode(%q): %q, not %q", x[0], s, x[1])
		}
	}
}

// P4.2: the chapter's examples, and texts that are decoded.
func TestDecodeExamples(t *testing.T) {
	for _, x := range [][2]string{
		{"", ""},
		{"YQ", "a"},
		{"YQ==", "a"},
		{"YWI", "ab"},
		{"YWI=", "ab"},
		{"YWJj", "abc"},
		{"YWJjZA", "abcd"},
		{"YWJjZA==", "abcd"},
		{"YWJjZGU", "abcde"},
		{"YWJjZGU=", "abcde"},
		{"_-79", "\xff\xee\xfd"},
		{"/+79", "\xff\xee\xfd"},
		{"_+79", "\xff\xee\xfd"}, // both ways of writing in one text
		{"/-79", "\xff\xee\xfd"},
		{"____", "\xff\xff\xff"},
		{"_w==", "\xff"},
		{"-A", "\xf8"},
		{"AA", "\x00"},
		{"AAA=", "\x00\x00"},
		{"AAAA", "\x00\x00\x00"},
		{"w6Q=", "ä"},
		{"5A", "\xe4"}, // bytes of no code point
	} {
		if s, ok := base.Decode(x[0]); s != x[1] || !ok {
			t.Errorf("P4.2: Decode(%q): %q, %t, not %q", x[0], s, ok, x[1])
		}
	}
}

// P4.2: the chapter's examples, and texts that have the form, but are not decoded.
func TestDecodeForms(t *testing.T) {
	for _, s := range []string{
		"YR==", "YR", "YS==", "YU", "YY==", "Yf", // one of the four bits that are left is 1, or all are
		"YWJ=", "YWJ", "YWK=", "YWL", // one of the two, or both
		"//", "__==", "//9", "___=",
		"YWJjZB", "YWJjZGV=",
		"A", "Q", "_", "AAAAA", "YWJjZ", // six bits are left, though they be 0
		"A=", "A==", "AAAAA=", "AAAAA==",
		"YQ=", "YWI==", // = there, but not as many as belong there
		"YWJj=", "YWJj==", "AAAA=", "AAAA==", // none belong there
		"YWJjZA=", "YWJjZGU==",
	} {
		if !base.Form(s) {
			t.Errorf("P4.2: Form(%q): false", s)
		}
		if d, ok := base.Decode(s); d != "" || ok {
			t.Errorf("P4.2: Decode(%q): %q, %t", s, d, ok)
		}
	}
}

// P4.2: texts that have not the form, and are not decoded.
func TestNoForms(t *testing.T) {
	for _, s := range []string{
		"=", "==", "===", "====", // no sign
		"A===", "YQ===", "YWI===", "YWJj===", "YWJj====", "AAAAA===", "YQ======", // more than two =
		"Y=Q=", "=YQ=", "Y=Q", "=YQ", "=AAA", "YQ==YQ==", "YQ=Q", // a sign behind =
		" YQ==", "YQ== ", "YQ ==", "Y Q", " ", "YQ==\n", "YWJj\r\n", "YW\nJj", "YWJj\n", "AAAA\t", // blanks
		"YQ=\n=", "YQ\n==",
		"YQ.=", "YQ,", "YQ'", "'YQ'", "YQ:", "YQ@", "Y[Q", "`AA", "{AA", // beside the signs
		"AA*A", "AA.A", "AA^A", "AA~A",
		"Ä", "AAÄ", "ääää", "\xff", "\x80A==", "AA\xff=", "A\x00", "\x00", "\x00\x00\x00\x00", // bytes of none
		"\uff21\uff21", "YQ\uff1d\uff1d",
	} {
		if base.Form(s) {
			t.Errorf("P4.2: Form(%q): true", s)
		}
		if d, ok := base.Decode(s); d != "" || ok {
			t.Errorf("P4.2: Decode(%q): %q, %t", s, d, ok)
		}
	}
}

// P4.2: what is empty is decoded, but has not the form.
func TestEmpty(t *testing.T) {
	if base.Form("") {
		t.Errorf("P4.2: Form of no text: true")
	}
	if s, ok := base.Decode(""); s != "" || !ok {
		t.Errorf("P4.2: Decode of no text: %q, %t", s, ok)
	}
}

// P4.2: each byte, alone and among signs, as one of four, and with = behind it.
func TestEachByte(t *testing.T) {
	for n := range 256 {
		c := string([]byte{byte(n)})
		sign := strings.Contains(allSigns+"-_", c)
		for _, s := range []string{c, c + "A", "A" + c, "AA" + c, "AAA" + c, c + c + c + c, "AAAA" + c} {
			if form := base.Form(s); form != (sign || c == "=" && s != c && s != c+"A" && s != c+c+c+c) {
				t.Errorf("P4.2: Form(%q): %t", s, form)
			}
		}
		for _, s := range []string{c + "=", c + "==", "A" + c + "==", "AA" + c + "=", c + "AA="} {
			if form := base.Form(s); form != modelForm(s) || form && !sign && c != "=" {
				t.Errorf("P4.2: Form(%q): %t", s, form)
			}
		}
	}
}

// P4.1, P4.2: each sign in each of the four places is its own number, and is written so.
func TestEachSign(t *testing.T) {
	check := func(sign string, n int) {
		for place := range 4 {
			s := strings.Repeat("A", place) + sign + strings.Repeat("A", 3-place)
			whole := n << (6 * (3 - place))
			want := string([]byte{byte(whole >> 16), byte(whole >> 8), byte(whole)})
			if d, ok := base.Decode(s); d != want || !ok {
				t.Errorf("P4.2: Decode(%q): %q, %t, not %q", s, d, ok, want)
			}
			written := strings.NewReplacer("-", "+", "_", "/").Replace(s)
			if e := base.Encode(want); e != written {
				t.Errorf("P4.1: Encode(%q): %q, not %q", want, e, written)
			}
		}
	}
	for n := range 64 {
		check(allSigns[n:n+1], n)
	}
	check("-", 62)
	check("_", 63)
}

// P4.1, P4.3: all short texts, against the model and the library.
func TestEncodeAgainstModel(t *testing.T) {
	eachInput(edges, 4, func(s string) {
		e := base.Encode(s)
		if e != modelEncode(s) || e != base64.StdEncoding.EncodeToString([]byte(s)) {
			t.Fatalf("P4.1: Encode(%q): %q, not %q", s, e, modelEncode(s))
		}
		if len(e)%4 != 0 || base.Form(e) != (s != "") {
			t.Fatalf("P4.1: Encode(%q): %q", s, e)
		}
		if d, ok := base.Decode(e); d != s || !ok {
			t.Fatalf("P4.3: Decode(%q): %q, %t, not %q", e, d, ok, s)
		}
		bare := strings.TrimRight(e, "=")
		if d, ok := base.Decode(bare); d != s || !ok {
			t.Fatalf("P4.2: Decode(%q): %q, %t, not %q", bare, d, ok, s)
		}
	})
}

// P4.2, P4.3: all short texts, against the model: what is decoded is encoded as it is written.
func TestDecodeAgainstModel(t *testing.T) {
	decoded := 0
	eachInput(readEdges, 5, func(s string) {
		if form := base.Form(s); form != modelForm(s) {
			t.Fatalf("P4.2: Form(%q): %t", s, form)
		}
		want, wanted := modelDecode(s)
		d, ok := base.Decode(s)
		if d != want || ok != wanted {
			t.Fatalf("P4.2: Decode(%q): %q, %t, not %q, %t", s, d, ok, want, wanted)
		}
		if !ok {
			return
		}
		decoded++
		if e := base.Encode(d); e != modelWritten(s) {
			t.Fatalf("P4.3: Decode(%q), encoded: %q, not %q", s, e, modelWritten(s))
		}
	})
	if decoded < 10000 {
		t.Errorf("P4.3: only %d texts are decoded", decoded)
	}
}

// P4.3: texts that are decoded, and how they are written.
func TestWritten(t *testing.T) {
	for _, x := range [][2]string{
		{"", ""},
		{"YQ", "YQ=="},
		{"YQ==", "YQ=="},
		{"YWI", "YWI="},
		{"YWJj", "YWJj"},
		{"_-79", "/+79"},
		{"/+79", "/+79"},
		{"-_-_-A", "+/+/+A=="},
		{"_-8=", "/+8="},
	} {
		d, ok := base.Decode(x[0])
		if !ok {
			t.Errorf("P4.2: Decode(%q): false", x[0])
		}
		if e := base.Encode(d); e != x[1] {
			t.Errorf("P4.3: Decode(%q), encoded: %q, not %q", x[0], e, x[1])
		}
	}
}

// R2: what a call answers hangs on its text alone, and stays as it was told.
func TestAgain(t *testing.T) {
	code := base.Encode("ab")
	text, ok := base.Decode("YWI")
	for _, s := range []string{"", "A", "YR", "//79", "\xff\xff\xff", "x y"} {
		base.Encode(s)
		base.Decode(s)
		base.Form(s)
	}
	again, okAgain := base.Decode("YWI")
	if code != "YWI=" || base.Encode("ab") != code || text != "ab" || again != text || !ok || !okAgain {
		t.Errorf("R2: %q, %q, and again %q", code, text, again)
	}
}

// R1, R4: texts of any bytes, of all lengths up to long ones, whole and with a byte changed.
func TestLong(t *testing.T) {
	s := strings.Repeat(allBytes()+"<script>f('Ä')</script>\xff", 80)
	for size := range 300 {
		checkLong(t, s[size:2*size])
	}
	for _, size := range []int{4095, 4096, 4097, 19999, 20000, 20001, len(s)} {
		checkLong(t, s[:size])
	}
}

// checkLong holds a text against the model, and its code with one byte changed, or cut off.
func checkLong(t *testing.T, s string) {
	e := base.Encode(s)
	if e != modelEncode(s) {
		t.Errorf("P4.1: Encode of %d bytes is not as it should be", len(s))
	}
	for _, code := range []string{e, strings.NewReplacer("+", "-", "/", "_").Replace(e)} {
		if d, ok := base.Decode(code); d != s || !ok {
			t.Errorf("P4.3: the code of %d bytes is not decoded as these", len(s))
		}
	}
	for _, at := range []int{0, len(e) / 2, len(e) - 1} {
		if e == "" {
			return
		}
		for _, code := range []string{e[:at] + "\n" + e[at+1:], e[:at] + "=" + e[at+1:], e[:at] + e[at+1:], e + "="} {
			want, wanted := modelDecode(code)
			if d, ok := base.Decode(code); d != want || ok != wanted {
				t.Errorf("P4.2: the code of %d bytes, changed at %d, is not decoded as it should be: %t", len(s), at, ok)
			}
			if form := base.Form(code); form != modelForm(code) {
				t.Errorf("P4.2: the code of %d bytes, changed at %d: Form: %t", len(s), at, form)
			}
		}
	}
}
