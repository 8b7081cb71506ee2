package fold_test

import (
	"slices"
	"strings"
	"testing"

	"pounce/fold"
)

// P2.1: each byte there is.
func TestBlank(t *testing.T) {
	for n := range 256 {
		c := byte(n)
		if b := fold.Blank(c); b != strings.Contains("\t\n\f\r ", string([]byte{c})) {
			t.Errorf("P2.1: Blank(%d): %t", n, b)
		}
	}
}

// P2.1: the chapter's examples, and inputs written out by hand.
func TestLower(t *testing.T) {
	for _, x := range [][2]string{
		{"", ""},
		{"Ab1Ä", "ab1Ä"},
		{"ABCDEFGHIJKLMNOPQRSTUVWXYZ", "abcdefghijklmnopqrstuvwxyz"},
		{"abcdefghijklmnopqrstuvwxyz", "abcdefghijklmnopqrstuvwxyz"},
		{"@[`{", "@[`{"}, // beside the letters
		{"ÉΣЖ\u0130\u212A", "ÉΣЖ\u0130\u212A"}, // great, but not among these bytes
		{"A\xff\xc3B\x80", "a\xff\xc3b\x80"},   // bytes of no code point stay
		{"\x00A\x00", "\x00a\x00"},
		{" A\tB\v", " a\tb\v"},
	} {
		if s := fold.Lower(x[0]); s != x[1] {
			t.Errorf("P2.1: Lower(%q): %q, not %q", x[0], s, x[1])
		}
	}
}

// P2.1: the chapter's examples, and pairs written out by hand.
func TestSame(t *testing.T) {
	for _, x := range []struct {
		a, b string
		same bool
	}{
		{"NONE", "none", true},
		{"", "", true},
		{"NoNe", "nOnE", true},
		{"Ä", "Ä", true},
		{"a\xff", "A\xff", true},
		{"none", "none ", false},
		{"", "a", false},
		{"a", "", false},
		{"a", "b", false},
		{"Ä", "ä", false},
		{"k", "\u212A", false}, // the sign of Kelvin is no k
		{"s", "\u017F", false}, // a long s is no s
		{"@", "`", false},      // 32 apart, but no letters
		{"[", "{", false},
		{"\xff", "\xfe", false}, // bytes of no code point are not one
		{"\xff", "\uFFFD", false},
	} {
		if same := fold.Same(x.a, x.b); same != x.same {
			t.Errorf("P2.1: Same(%q, %q): %t", x.a, x.b, same)
		}
		if same := fold.Same(x.b, x.a); same != x.same {
			t.Errorf("P2.1: Same(%q, %q): %t", x.b, x.a, same)
		}
	}
}

// P2.1: all pairs of bytes: the same are those that are one, and a great letter and its small one.
func TestSameBytes(t *testing.T) {
	for a := range 256 {
		for b := range 256 {
			s, u := string([]byte{byte(a)}), string([]byte{byte(b)})
			if same := fold.Same(s, u); same != (modelLower(s) == modelLower(u)) {
				t.Errorf("P2.1: Same(%q, %q): %t", s, u, same)
			}
		}
	}
}

// P2.2: the chapter's examples, and inputs written out by hand.
func TestTrim(t *testing.T) {
	for _, x := range [][2]string{
		{"", ""},
		{" a b ", "a b"},
		{"a", "a"},
		{" \t\n\f\r ", ""},
		{"\t\n\f\r a\r\f\n\t ", "a"},
		{" \va\v ", "\va\v"},               // 11 is no blank
		{"\x00 a \x00", "\x00 a \x00"},     // nor is 0
		{"\u0085a\u00a0", "\u0085a\u00a0"}, // nor what other alphabets leave blank
		{"\u2003a\u3000", "\u2003a\u3000"}, // nor these
		{" \xc2\x85 ", "\xc2\x85"},
		{" \xff \x80 ", "\xff \x80"},               // bytes of no code point stay
		{"\u0120a\u010A", "\u0120a\u010A"},         // 288 and 266 are no blanks, though their last bytes, as numbers, are
		{"\r\nA: b\r\n\r\nc\r\n", "A: b\r\n\r\nc"}, // blanks inside stay
		{strings.Repeat(" ", 999) + "a" + "\t\t", "a"},
	} {
		if s := fold.Trim(x[0]); s != x[1] {
			t.Errorf("P2.2: Trim(%q): %q, not %q", x[0], s, x[1])
		}
	}
}

// P2.2: the chapter's examples, and inputs written out by hand.
func TestWords(t *testing.T) {
	for _, x := range []struct {
		text  string
		words []string
	}{
		{"", nil},
		{" ", nil},
		{" \t\n\f\r", nil},
		{" a  b ", []string{"a", "b"}},
		{"a", []string{"a"}},
		{"a b", []string{"a", "b"}},
		{"a\tb\nc\fd\re f", []string{"a", "b", "c", "d", "e", "f"}},
		{"\r\n'Self'\r\n *;\t", []string{"'Self'", "*;"}}, // nothing else is changed
		{"b a b", []string{"b", "a", "b"}},                // in order, and twice
		{"a\vb \v c", []string{"a\vb", "\v", "c"}},        // 11 is no blank
		{"a\x00b", []string{"a\x00b"}},
		{"a\u0085b\u00a0c\u2003d\u3000e", []string{"a\u0085b\u00a0c\u2003d\u3000e"}}, // blank in other alphabets
		{"a\u0120b\u0109c\u010Ad\u010Ce\u010Df", []string{"a\u0120b\u0109c\u010Ad\u010Ce\u010Df"}},
		{"\xff \xc3\t\x80\xe2\x82 ", []string{"\xff", "\xc3", "\x80\xe2\x82"}}, // bytes of no code point
		{"\xff\xff", []string{"\xff\xff"}},
		{"Ä ä", []string{"Ä", "ä"}},
	} {
		if words := fold.Words(x.text); !slices.Equal(words, x.words) {
			t.Errorf("P2.2: Words(%q): %q, not %q", x.text, words, x.words)
		}
	}
	if words := fold.Words(strings.Repeat(" a", 1000)); len(words) != 1000 {
		t.Errorf("P2.2: %d words, not 1000", len(words))
	}
}

// P2.2: the chapter's examples, and inputs written out by hand.
func TestParts(t *testing.T) {
	for _, x := range []struct {
		text  string
		sep   byte
		parts []string
	}{
		{"a; b;;", ';', []string{"a", "b", "", ""}},
		{"", ';', []string{""}},
		{"a", ';', []string{"a"}},
		{" a ", ';', []string{"a"}},
		{" ", ';', []string{""}},
		{";", ';', []string{"", ""}},
		{" ; ", ';', []string{"", ""}},
		{"a b,\tc\r\n,d", ',', []string{"a b", "c", "d"}},
		{"a;b", ',', []string{"a;b"}},
		{" a  b ", ' ', []string{"", "a", "", "b", ""}}, // a blank may part, and empty parts stay
		{"a\tb c", '\t', []string{"a", "b c"}},
		{"aXAxa", 'A', []string{"aX", "xa"}}, // a letter's size plays a part
		{"a\x00 b", 0, []string{"a", "b"}},
		{"a\v;\vb", ';', []string{"a\v", "\vb"}}, // 11 is no blank
		{"a\xffb", 0xff, []string{"a", "b"}},     // a byte from 128 on parts
		{"ä\xe4a", 0xe4, []string{"ä", "a"}},     // and is the byte, not the code point 228
		{"ä", 0xa4, []string{"\xc3", ""}},        // inside a code point too
		{"ä", 0xc3, []string{"", "\xa4"}},
		{"\xff;\x80 ; \xc3", ';', []string{"\xff", "\x80", "\xc3"}},
		{"\uFFFD", 0xff, []string{"\uFFFD"}},
	} {
		if parts := fold.Parts(x.text, x.sep); !slices.Equal(parts, x.parts) {
			t.Errorf("P2.2: Parts(%q, %d): %q, not %q", x.text, x.sep, parts, x.parts)
		}
	}
}

// P2.1, P2.2: all short texts, against the model.
func TestAgainstModel(t *testing.T) {
	eachInput(func(s string) {
		if d := fold.Lower(s); d != modelLower(s) {
			t.Fatalf("P2.1: Lower(%q): %q", s, d)
		}
		if d := fold.Trim(s); d != modelTrim(s) {
			t.Fatalf("P2.2: Trim(%q): %q", s, d)
		}
		if d := fold.Words(s); !slices.Equal(d, modelWords(s)) {
			t.Fatalf("P2.2: Words(%q): %q", s, d)
		}
	})
}

// P2.2: each byte as what parts, against the model.
func TestPartsAgainstModel(t *testing.T) {
	check := func(s string, sep byte) {
		if d := fold.Parts(s, sep); !slices.Equal(d, modelParts(s, sep)) {
			t.Fatalf("P2.2: Parts(%q, %d): %q, not %q", s, sep, d, modelParts(s, sep))
		}
	}
	for n := range 256 {
		sep := string([]byte{byte(n)})
		for _, s := range []string{"", sep, "a" + sep + " b", " " + sep + sep + "ä", "\xff" + sep + "\x80\t" + sep} {
			check(s, sep[0])
		}
	}
	for count := range 4 {
		eachOf(edges, count, func(s string) {
			for _, sep := range []byte(edges) {
				check(s, sep)
			}
		})
	}
}

// P2.3: Lower and Trim are done twice as once.
func TestTwiceAsOnce(t *testing.T) {
	eachInput(func(s string) {
		once := fold.Lower(s)
		if twice := fold.Lower(once); twice != once || !fold.Same(s, once) {
			t.Fatalf("P2.3: Lower(%q): %q, and twice %q", s, once, twice)
		}
		once = fold.Trim(s)
		if twice := fold.Trim(once); twice != once {
			t.Fatalf("P2.3: Trim(%q): %q, and twice %q", s, once, twice)
		}
	})
}

// P2.3: words joined by blanks, by one or by several, have the same words.
func TestWordsJoined(t *testing.T) {
	eachInput(func(s string) {
		words := fold.Words(s)
		for _, blank := range []string{" ", "\t", "\n", "\f", "\r", " \r\n\t\f"} {
			joined := blank + strings.Join(words, blank) + blank
			if again := fold.Words(joined); !slices.Equal(again, words) {
				t.Fatalf("P2.3: Words(%q): %q, not %q", joined, again, words)
			}
		}
	})
}

// P2.3: a text without what parts, and without blanks around, is its own only part.
func TestOnlyPart(t *testing.T) {
	eachInput(func(s string) {
		for _, sep := range []byte(";\x0b\xa4\xff") {
			if strings.IndexByte(s, sep) >= 0 || modelTrim(s) != s {
				continue
			}
			if parts := fold.Parts(s, sep); !slices.Equal(parts, []string{s}) {
				t.Fatalf("P2.3: Parts(%q, %d): %q", s, sep, parts)
			}
		}
	})
}

// R2: what comes out is new, and lists that come out share nothing.
func TestListsApart(t *testing.T) {
	for _, x := range []struct {
		name string
		call func() []string
	}{
		{"Words", func() []string { return fold.Words("a b c") }},
		{"Parts", func() []string { return fold.Parts("a;b;c", ';') }},
	} {
		first, second := x.call(), x.call()
		clear(first)
		if _ = append(first[:0], "x", "y", "z"); !slices.Equal(second, []string{"a", "b", "c"}) {
			t.Errorf("R2: lists of %s share memory: %q", x.name, second)
		}
		if third := x.call(); !slices.Equal(third, second) {
			t.Errorf("R2: %s, called again: %q", x.name, third)
		}
	}
}

// R1, R4: long texts, and texts of any bytes.
func TestLong(t *testing.T) {
	all := make([]byte, 256)
	for n := range all {
		all[n] = byte(n)
	}
	s := strings.Repeat(string(all)+"; Ä\xff", 200)
	if d := fold.Lower(s); d != modelLower(s) {
		t.Errorf("P2.1: Lower of a long text is not as it should be")
	}
	if d := fold.Trim(" " + s + "\n"); d != modelTrim(s) {
		t.Errorf("P2.2: Trim of a long text is not as it should be")
	}
	if d := fold.Words(s); !slices.Equal(d, modelWords(s)) {
		t.Errorf("P2.2: Words of a long text are not as they should be")
	}
	if d := fold.Parts(s, ';'); !slices.Equal(d, modelParts(s, ';')) {
		t.Errorf("P2.2: Parts of a long text are not as they should be")
	}
}
