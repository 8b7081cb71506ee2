package entity_test

import (
	"math"
	"slices"
	"strconv"
	"strings"
	"testing"

	"pounce/api"
	"pounce/entity"
	"pounce/utf"
)

// at answers Fails at these places.
func at(places ...int) []api.Fail {
	fails := []api.Fail{}
	for _, place := range places {
		fails = append(fails, api.Fail{Code: api.ErrEntityForm, At: place})
	}
	return fails
}

// checkDecode asks what a text is decoded as.
func checkDecode(t *testing.T, s, want string, fails []api.Fail) {
	t.Helper()
	if got, f := entity.Decode(s); got != want || !slices.Equal(f, fails) {
		t.Errorf("P13.2: Decode(%.99q): %.99q, %v, not %.99q, %v", s, got, f, want, fails)
	}
}

// checkAsItIs asks whether a text is decoded as itself.
func checkAsItIs(t *testing.T, s string) {
	t.Helper()
	checkDecode(t, s, s, nil)
}

// checkModel holds both ways against the model, and against what follows from the promises.
func checkModel(t *testing.T, s string) {
	t.Helper()
	want, fails := modelDecode(s)
	if got, f := entity.Decode(s); got != want || !slices.Equal(f, fails) {
		t.Fatalf("P13.2: Decode(%q): %q, %v, not %q, %v", s, got, f, want, fails)
	}
	if !strings.Contains(s, "&") && (want != s || len(fails) > 0) {
		t.Fatalf("P13.4: Decode(%q): %q, %v", s, want, fails)
	}
	code := entity.Encode(s)
	if want := modelEncode(s); code != want {
		t.Fatalf("P13.3: Encode(%q): %q, not %q", s, code, want)
	}
	if got, f := entity.Decode(code); got != s || len(f) > 0 || strings.ContainsAny(code, `<>"'`) {
		t.Fatalf("P13.4: %q is encoded as %q, and that decoded as %q, %v", s, code, got, f)
	}
}

// allBytes is each byte once.
func allBytes() string {
	all := make([]byte, 256)
	for n := range all {
		all[n] = byte(n)
	}
	return string(all)
}

// P13.1: the ten names, and what they stand for.
func TestName(t *testing.T) {
	for name, want := range map[string]string{
		"amp": "&", "lt": "<", "gt": ">", "quot": `"`, "apos": "'",
		"nbsp": "\xc2\xa0", "colon": ":", "lpar": "(", "rpar": ")", "tab": "\t",
	} {
		if got, ok := entity.Name(name); got != want || !ok {
			t.Errorf("P13.1: Name(%q): %q, %t", name, got, ok)
		}
		if points := utf.Points(want); len(points) != 1 {
			t.Errorf("P13.1: %q stands for %v", name, points)
		}
	}
	if got, _ := entity.Name("nbsp"); !slices.Equal(utf.Points(got), []int{160}) {
		t.Errorf("P13.1: nbsp is %v", utf.Points(got))
	}
}

// P13.1: texts that are no name: no byte and false.
func TestNoName(t *testing.T) {
	wrong := []string{
		"", " ", "&", "<", ">", "\t", ":", "foo", "#97", "#x61", "&amp;", "&amp", "amp;", "&lt;", "LT", "Lt", "lT", "AMP", "nBsp", "NBSP",
		" lt", "lt ", "lt\n", "lt\x00", "\x00lt", "ltlt", "lt;gt", "lt gt", "copy", "Tab", "newline", "lbrack", "semi", "num", "hyphen", "sol", "\xff", "\xc2\xa0", "amp\xff",
		allBytes(), strings.Repeat("amp", 100000),
	}
	for name := range modelSigns {
		for cut := range len(name) {
			wrong = append(wrong, name[:cut], name[cut+1:], name[:cut]+strings.ToUpper(name[cut:cut+1])+name[cut+1:], name[:cut]+" "+name[cut:])
		}
		wrong = append(wrong, name+name, name+";", "&"+name, name+"x", "x"+name, strings.ToUpper(name))
	}
	for _, s := range wrong {
		if got, ok := entity.Name(s); got != "" || ok {
			t.Errorf("P13.1: Name(%.99q): %q, %t", s, got, ok)
		}
	}
}

// P13.2: the chapter's examples, and texts written out by hand.
func TestDecode(t *testing.T) {
	for _, row := range []struct{ text, want string }{
		{"", ""},
		{"a&lt;b&amp;lt;", "a<b&lt;"},
		{"&#97;&#x62;&#x2028;", "ab\xe2\x80\xa8"},
		{"&amp;", "&"},
		{"&lt;", "<"},
		{"&gt;", ">"},
		{"&quot;", `"`},
		{"&apos;", "'"},
		{"&nbsp;", "\xc2\xa0"},
		{"&colon;", ":"},
		{"&lpar;", "("},
		{"&rpar;", ")"},
		{"&tab;", "\t"},
		{"javascript&colon;f&lpar;&#120;&rpar;", "javascript:f(x)"},
		{"&lt;&lt;&gt;", "<<>"},
		{"&lt;;", "<;"},
		{"&amp;amp;amp;", "&amp;amp;"}, // what is decoded is not decoded again
		{"&amp;#97;", "&#97;"},
		{"&#38;lt;", "&lt;"},
		{"&#x26;#97;", "&#97;"},
		{"&am&#112;;", "&amp;"},
		{"&am&lt;p;", "&am<p;"},
		{"&&lt;", "&<"},
		{"&&&amp;;", "&&&;"},
		{"&lt&lt;", "&lt<"},
		{"&#&#97;", "&#a"},
		{"&#x&#x61;", "&#xa"},
		{"&#9&#97;", "&#9a"},
		{"&foo&gt;", "&foo>"},
		{"&foo;&gt;", "&foo;>"},
		{"& lt;&lt;", "& lt;<"},
		{"\xff&lt;\xc3", "\xff<\xc3"}, // bytes of no code point are as they are
		{"\xc3&#164;\xa4", "\xc3\xc2\xa4\xa4"},
		{"&#195;&#164;", "\xc3\x83\xc2\xa4"}, // a number is a code point's, not a byte's
		{"ä&amp;ö\x00&#10;\r\n", "ä&ö\x00\n\r\n"},
		{"&#1;&#127;&#128;&#255;&#256;", "\x01\x7f\xc2\x80\xc3\xbf\xc4\x80"},
		{"&#60;script&#62;", "<script>"},
		{"&#xa;&#xA;&#Xa;&#XA;", "\n\n\n\n"},
		{"&#x1f600;&#128512;", "\xf0\x9f\x98\x80\xf0\x9f\x98\x80"},
		{"&#xaBcDe;", "\xf2\xab\xb3\x9e"},
		{"&#xFfFd;&#65533;", odd + odd}, // told by its own number it is right
		{"&#0000097;&#x000061;&#X000061;", "aaa"},
	} {
		checkDecode(t, row.text, row.want, nil)
	}
}

// P13.2: what begins like a sign's text, and is none, is as it is.
func TestDecodeNone(t *testing.T) {
	for _, s := range []string{
		"&foo;&lt &#;&#x;",
		"&", "&&", "&;", "& ;", ";", "#97;", "lt;", "&l;", "&lt", "&lt ", "&lt ;", "& lt;", "&LT;", "&Lt;", "&lT;", "&AMP;", "&Tab;", "&NBSP;", "&lt\x00;", "&lt\n;",
		"&ltt;", "&llt;", "&am;", "&ampamp;", "&amp:", "&amp,", "&copy;", "&nbs;", "&nbspx;", "&newline;",
		"&#", "&#;", "&# ;", "&#97", "&#97 ;", "&# 97;", "& #97;", "&#97:", "&97;", "&##97;", "&#-97;", "&#+97;", "&#97.;", "&#9,7;", "&#9_7;", "&#1e2;", "&#61a;", "&#a;", "&#lt;", "&#amp;",
		"&#x", "&#x;", "&#X;", "&#x ;", "&#x61", "&#x61 ;", "&#x 61;", "&#xg;", "&#x6g;", "&#xG;", "&#x`;", "&#x@;", "&#x/;", "&#x:;", "&#xx61;", "&#xX61;", "&x61;", "&X61;", "&#0x61;", "&#x0x61;", "&#x-61;", "&#x+61;", "&#x6_1;", "&#h61;", "&x#61;",
		"&#/;", "&#:;", "&#9/;", "&#9:;", // beside the digits
		"&#00000097;", "&#10000000;", "&#00000000;", "&#99999999;", "&#18446744073709551713;", // eight digits, and more
		"&#x0000061;", "&#x1000000;", "&#X0000000;", "&#xfffffff;", "&#x10000000000000061;", // seven digits and letters, and more
		"&#\xd9\xa1;", "&#\xef\xbc\x91;", "&#x\xef\xbc\xa1;", "&\xef\xbc\xa3lt;", "&l\xffamp;", // digits and letters of other kinds
		"\xff\xfe\xc3", odd, allBytes(), strings.Repeat("&#0", 20), strings.Repeat("&", 20) + ";",
	} {
		checkAsItIs(t, s)
	}
}

// P13.2: numbers that are no code point's, and 0: 65533, and a Fail at the place of the `&`.
func TestDecodeFails(t *testing.T) {
	for _, row := range []struct {
		text, want string
		fails      []api.Fail
	}{
		{"&#0;&#55296;", odd + odd, at(0, 4)},
		{"&#0;", odd, at(0)},
		{"&#x0;", odd, at(0)},
		{"&#X0;", odd, at(0)},
		{"&#0000000;&#x000000;", odd + odd, at(0, 10)},
		{"&#xd800;&#xDfFf;", odd + odd, at(0, 8)},
		{"&#57343;&#57344;", odd + "\xee\x80\x80", at(0)},
		{"&#55295;&#55296;", "\xed\x9f\xbf" + odd, at(8)},
		{"&#1114111;&#1114112;", "\xf4\x8f\xbf\xbf" + odd, at(10)},
		{"&#x10ffff;&#x110000;", "\xf4\x8f\xbf\xbf" + odd, at(10)},
		{"&#9999999;&#xffffff;", odd + odd, at(0, 10)},
		{"a&#0;b&lt;&#97;&#x0;c", "a" + odd + "b<a" + odd + "c", at(1, 15)},
		{"ä\xff&#0;", "ä\xff" + odd, at(3)}, // places are bytes of the text as it is
		{"&amp;&amp;&#0;", "&&" + odd, at(10)},
		{"&&#0;", "&" + odd, at(1)},
		{"&#&#0;&#0", "&#" + odd + "&#0", at(2)},
		{odd + "&#65533;&#xfffd;&#0;", odd + odd + odd + odd, at(19)}, // 65533 itself is no Fail
		{"&#0;&#00000000;&foo;&#0;", odd + "&#00000000;&foo;" + odd, at(0, 20)},
	} {
		checkDecode(t, row.text, row.want, row.fails)
	}
}

// P13.2: each number up to those that are beyond all code points, in decimal and in sixteens; and how many digits may tell it.
func TestEachNumber(t *testing.T) {
	edges := []int{9999999, 0xffffff, 1<<23 - 1, 1 << 23, 1 << 21, 1<<22 + 97, 1<<20 + 97}
	check := func(n int) {
		want, ok := modelPoint(n)
		fails := at()
		if !ok {
			fails = at(0)
		}
		if n <= 9999999 {
			checkDecode(t, "&#"+strconv.Itoa(n)+";", want, fails)
		}
		checkDecode(t, "&#x"+strconv.FormatInt(int64(n), 16)+";", want, fails)
	}
	for n := range 1114112 + 2000 {
		check(n)
	}
	for _, n := range edges {
		check(n)
	}
}

// P13.2: the digits' number, whatever zeros are ahead, and letters of any size.
func TestDigits(t *testing.T) {
	for _, n := range []int{0, 1, 9, 10, 15, 97, 160, 255, 4095, 55295, 55296, 57343, 57344, 65533, 65535, 65536, 99999, 1048575, 1114111, 1114112, 9999999, 16777215} {
		for zeros := range 8 {
			ahead := strings.Repeat("0", zeros)
			decimal, sixteens := ahead+strconv.Itoa(n), ahead+strconv.FormatInt(int64(n), 16)
			checkDigits(t, "&#"+decimal+";", n, len(decimal) <= 7)
			checkDigits(t, "&#x"+sixteens+";", n, len(sixteens) <= 6)
			checkDigits(t, "&#X"+sixteens+";", n, len(sixteens) <= 6)
			checkDigits(t, "&#x"+strings.ToUpper(sixteens)+";", n, len(sixteens) <= 6)
			checkDigits(t, "&#X"+strings.ToUpper(sixteens)+";", n, len(sixteens) <= 6)
		}
	}
}

// checkDigits asks for n's code point, if text may tell it, else for the text as it is, in the midst of others.
func checkDigits(t *testing.T, text string, n int, may bool) {
	t.Helper()
	want, right := modelPoint(n)
	fails := at()
	switch {
	case !may:
		want = text
	case !right:
		fails = at(2)
	}
	checkDecode(t, ";0"+text+"0;", ";0"+want+"0;", fails)
}

// P13.2 to P13.4: all bytes and pairs of bytes, alone and where they break a sign's text.
func TestBytes(t *testing.T) {
	for a := range 256 {
		one := string([]byte{byte(a)})
		for _, s := range []string{"&" + one, one + "&lt;", "&lt" + one, "&lt" + one + ";", "&" + one + "lt;", "&l" + one + "t;", "&#" + one + ";", "&#1" + one + ";", "&#" + one + "1;", "&#x" + one + ";", "&#xa" + one + ";", "&#X" + one + "a;", "&" + one + "97;", "&#" + one + "41;", "&#97" + one, one + "#97;"} {
			checkModel(t, s)
		}
		for b := range 256 {
			checkModel(t, one+string([]byte{byte(b)}))
		}
	}
}

// P13.2 to P13.4: all rows of the bytes that signs' texts are made of, and of pieces of them.
func TestRows(t *testing.T) {
	signs := strings.Split("&#xX;0aFlt<", "")
	for count := range 6 {
		eachRow(signs, count, func(s string) { checkModel(t, s) })
	}
	pieces := []string{"&", "#", "x", ";", "&#", "&#x", "&lt;", "&#0;", "amp", "quot", "apos;", "0", "97", "55296", "D800", "10ffff", "000000", "\xc3", "\xa4", `"`, "'", ">"}
	for count := range 5 {
		eachRow(pieces, count, func(s string) { checkModel(t, s) })
	}
}

// P13.2: each name and some numbers, behind and ahead of each other.
func TestPairs(t *testing.T) {
	texts := []string{"&#97;", "&#x61;", "&#0;", "&#x110000;", "&#1;", "&foo;", "&#12345678;", "&lt", "&", ";", "a"}
	for name := range modelSigns {
		texts = append(texts, "&"+name+";", "&"+name, name+";")
	}
	for count := range 4 {
		eachRow(texts, count, func(s string) { checkModel(t, s) })
	}
}

// P13.3: the five that are told by their names, and others, which are not.
func TestEncode(t *testing.T) {
	for _, row := range [][2]string{
		{"", ""},
		{"&", "&amp;"},
		{"<", "&lt;"},
		{">", "&gt;"},
		{`"`, "&quot;"},
		{"'", "&apos;"},
		{"a", "a"},
		{"<a b=\"c\" d='e'>&</a>", "&lt;a b=&quot;c&quot; d=&apos;e&apos;&gt;&amp;&lt;/a&gt;"},
		{"&amp;", "&amp;amp;"}, // what is encoded already is a text as others are
		{"&lt;&#97;&foo", "&amp;lt;&amp;#97;&amp;foo"},
		{"&&<<", "&amp;&amp;&lt;&lt;"},
		{"\xc2\xa0:()\t", "\xc2\xa0:()\t"}, // they have names, but are not told by them
		{"amp;lt;#;x", "amp;lt;#;x"},
		{"a b\r\n\x00\x7f/=`;", "a b\r\n\x00\x7f/=`;"},
		{"\xff<\xc3>\xa4\xed\xa0\x80", "\xff&lt;\xc3&gt;\xa4\xed\xa0\x80"}, // bytes of no code point are as they are
		{"ä" + odd + "\xf0\x9f\x98\x80'", "ä" + odd + "\xf0\x9f\x98\x80&apos;"},
	} {
		if got := entity.Encode(row[0]); got != row[1] {
			t.Errorf("P13.3: Encode(%q): %q, not %q", row[0], got, row[1])
		}
	}
}

// P13.4: what is encoded, once and again, is decoded as often, with no Fail.
func TestBack(t *testing.T) {
	for _, s := range []string{"", "a", "&", "&amp;", "&#0;", "&#55296;&lt;", `<a href="x&y" b='c'>`, "&&&;", allBytes(), strings.Repeat("<&\"'>", 4000)} {
		codes := []string{s}
		for range 4 {
			codes = append(codes, entity.Encode(codes[len(codes)-1]))
		}
		for again := len(codes) - 1; again > 0; again-- {
			code := codes[again]
			if strings.ContainsAny(code, `<>"'`) {
				t.Errorf("P13.4: %.99q has signs that it must not have", code)
			}
			if got, fails := entity.Decode(code); got != codes[again-1] || len(fails) > 0 {
				t.Errorf("P13.4: Decode(%.99q): %.99q, %v", code, got, fails)
			}
		}
	}
}

// P13.4: a text without `&` is decoded as itself.
func TestWithoutSign(t *testing.T) {
	for _, s := range []string{"", ";", "lt;", "#97;", "#x61;", "amp", "<a b='c'>\"", "ä\xff\xc3\x00", odd, strings.ReplaceAll(allBytes(), "&", ""), strings.Repeat("lt;#0;", 4000)} {
		if got, fails := entity.Decode(s); got != s || len(fails) > 0 {
			t.Errorf("P13.4: Decode(%.99q): %.99q, %v", s, got, fails)
		}
	}
}

// R1, R4: long texts of any bytes: each `&` may begin a sign's text, and none ends, or each one does.
func TestLong(t *testing.T) {
	const count = 400000
	for _, piece := range []string{"&", "&#", "&#x", "&#9", "&a", ";", "\xff", "&#00000000", "&ampamp"} {
		checkAsItIs(t, strings.Repeat(piece, count))
	}
	checkAsItIs(t, "&#"+strings.Repeat("9", count)+";")
	checkAsItIs(t, "&#x"+strings.Repeat("0", count)+"61;")
	checkAsItIs(t, "&"+strings.Repeat("lt", count)+";")
	checkDecode(t, strings.Repeat("&nbsp;", count), strings.Repeat("\xc2\xa0", count), nil)
	places := make([]int, count)
	for n := range places {
		places[n] = 5 * n
	}
	checkDecode(t, strings.Repeat("&#0;a", count), strings.Repeat(odd+"a", count), at(places...))
	if got := entity.Encode(strings.Repeat("'a", count)); got != strings.Repeat("&apos;a", count) {
		t.Errorf("P13.3: a text of %d signs is encoded as %d bytes", count, len(got))
	}
}

// R2: lists of Fails are new, and what a call answers hangs on its arguments alone.
func TestNewLists(t *testing.T) {
	const text = "&#0;a&#x0;&#55296;"
	_, first := entity.Decode(text)
	_, second := entity.Decode(text)
	clear(first)
	_ = append(first[:0], api.Fail{Code: 1, At: math.MaxInt}, api.Fail{Code: 1, At: math.MinInt})
	if !slices.Equal(second, at(0, 5, 10)) {
		t.Errorf("R2: two lists of Fails share memory: %v", second)
	}
	entity.Decode("&lt;")
	entity.Encode("<&")
	entity.Name("lt")
	checkDecode(t, text, odd+"a"+odd+odd, at(0, 5, 10))
}
