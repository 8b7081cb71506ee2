package token_test

import (
	"math"
	"math/rand/v2"
	"slices"
	"strconv"
	"strings"
	"testing"

	"pounce/api"
	"pounce/entity"
	"pounce/token"
)

// text answers a TokenText.
func text(data string) api.Token { return api.Token{Kind: api.TokenText, Data: data} }

// start answers a start tag; its attributes are told as names and values.
func start(name string, attrs ...string) api.Token {
	t := api.Token{Kind: api.TokenStart, Name: name}
	for at := 0; at < len(attrs); at += 2 {
		t.Attrs = append(t.Attrs, api.Attr{Name: attrs[at], Value: attrs[at+1]})
	}
	return t
}

// closed answers a start tag that is Closed.
func closed(name string, attrs ...string) api.Token {
	t := start(name, attrs...)
	t.Closed = true
	return t
}

// end answers an end tag.
func end(name string) api.Token { return api.Token{Kind: api.TokenEnd, Name: name} }

// comment answers a comment.
func comment(data string) api.Token { return api.Token{Kind: api.TokenComment, Data: data} }

// doctype answers a doctype.
func doctype(data string) api.Token { return api.Token{Kind: api.TokenDoctype, Data: data} }

// list answers these tokens.
func list(l ...api.Token) []api.Token { return l }

// fails answers Fails that are told as numbers: each one's code, and its place.
func fails(numbers ...int) []api.Fail {
	l := []api.Fail{}
	for at := 0; at < len(numbers); at += 2 {
		l = append(l, api.Fail{Code: api.Errno(numbers[at]), At: numbers[at+1]})
	}
	return l
}

// same answers whether two lists of tokens are the same; a list that is empty may be nil.
func same(a, b []api.Token) bool {
	return slices.EqualFunc(a, b, func(t, u api.Token) bool {
		return t.Kind == u.Kind && t.Name == u.Name && t.Data == u.Data && t.Closed == u.Closed && slices.Equal(t.Attrs, u.Attrs)
	})
}

// row is a text, and what is told of it.
type row struct {
	text   string
	tokens []api.Token
	fails  []api.Fail
}

// checkRow asks for what is told of a row's text, and holds the model against it too.
func checkRow(t *testing.T, r row) {
	t.Helper()
	got, f, err := token.Tokens(r.text)
	if !same(got, r.tokens) || !slices.Equal(f, r.fails) || err != api.OK {
		t.Errorf("P14.1: Tokens(%.200q): %+v, %v, %d, not %+v, %v", r.text, got, f, err, r.tokens, r.fails)
	}
	checkModel(t, r.text)
}

func checkRows(t *testing.T, rows []row) {
	t.Helper()
	for _, r := range rows {
		checkRow(t, r)
	}
}

// checkModel holds what is told of a text against the model, and against what follows from the promises.
func checkModel(t *testing.T, s string) {
	t.Helper()
	got, f, err := token.Tokens(s)
	want, wantFails := modelTokens(s)
	if !same(got, want) || !slices.Equal(f, wantFails) || err != api.OK {
		t.Fatalf("P14.1: Tokens(%.999q): %+v, %v, %d, not %+v, %v", s, got, f, err, want, wantFails)
	}
	code := token.Print(got)
	if wantCode := modelPrint(want); code != wantCode {
		t.Fatalf("P14.2: Print(%+v): %q, not %q", got, code, wantCode)
	}
	if len(f) > 0 {
		return
	}
	if again, f, err := token.Tokens(code); len(code) <= api.MaxText && (!same(again, got) || len(f) > 0 || err != api.OK) {
		t.Fatalf("P14.3: Tokens(%q): %+v, %v, %d, not %+v as of %q", code, again, f, err, got, s)
	}
}

// allBytes is each byte once.
func allBytes() string {
	all := make([]byte, 256)
	for n := range all {
		all[n] = byte(n)
	}
	return string(all)
}

// attrs answers that many names and values, all unlike.
func attrs(count int) []string {
	l := []string{}
	for n := range count {
		l = append(l, "a"+strconv.Itoa(n), strconv.Itoa(n))
	}
	return l
}

// tagOf answers a start tag with these names and values.
func tagOf(attrs []string) string {
	told := "<x"
	for at := 0; at < len(attrs); at += 2 {
		told += " " + attrs[at] + "=" + attrs[at+1]
	}
	return told + ">"
}

// blanks are chapter 2's.
var blanks = []string{"\t", "\n", "\f", "\r", " "}

// rawNames are P14.1's.
var rawNames = []string{"script", "style", "textarea", "title"}

// P14.1: the four raw names.
func TestRaw(t *testing.T) {
	for _, name := range rawNames {
		if !token.Raw(name) {
			t.Errorf("P14.1: %q is no raw name", name)
		}
	}
}

// P14.1: names that are not raw.
func TestNotRaw(t *testing.T) {
	wrong := []string{"", " ", "a", "xmp", "iframe", "noscript", "noembed", "plaintext", "template", "svg", "SCRIPT", "Title", "textArea", "\u017fcript", "script\xff", "\x00title", "<script>", "/style", "script style", allBytes(), strings.Repeat("script", 10000)}
	for _, name := range rawNames {
		for at := range len(name) {
			wrong = append(wrong, name[:at], name[at+1:], name[:at]+strings.ToUpper(name[at:at+1])+name[at+1:], name[:at]+" "+name[at:])
		}
		wrong = append(wrong, name+"s", name+" ", " "+name, name+name, strings.ToUpper(name))
	}
	for _, name := range wrong {
		if token.Raw(name) {
			t.Errorf("P14.1: %.99q is a raw name", name)
		}
	}
}

// P14.1: the chapter's examples, and example 6 of the whole.
func TestExamples(t *testing.T) {
	checkRows(t, []row{
		{"a<B x=1 X=2 y='&lt;'/>b", list(text("a"), closed("b", "x", "1", "y", "<"), text("b")), fails(142, 8)},
		{"<script>a<b</SCRIPT >", list(start("script"), text("a<b"), end("script")), nil},
		{"<!--x-->1<2</>", list(comment("x"), text("1<2"), comment("")), fails(141, 9, 141, 11)},
		{"a<b c", list(text("a")), fails(140, 1)},
	})
}

// P14.1: text, which is decoded, and is one token, as long as no other one is between.
func TestText(t *testing.T) {
	checkRows(t, []row{
		{"", nil, nil},
		{"a", list(text("a")), nil},
		{" \r\n\t", list(text(" \r\n\t")), nil}, // nothing is trimmed
		{"a>b/>=\"'", list(text("a>b/>=\"'")), nil},
		{"-->", list(text("-->")), nil},
		{"\x00\xff\xc3ä", list(text("\x00\xff\xc3ä")), nil}, // bytes of no code point too
		{"a&lt;b&gt;&amp;lt;", list(text("a<b>&lt;")), nil},
		{"&lt;a&gt;", list(text("<a>")), nil}, // what is decoded makes no tag
		{"&#60;script>", list(text("<script>")), nil},
		{"&lt;!--&#60;/a>", list(text("<!--</a>")), nil},
		{"<", list(text("<")), fails(141, 0)},
		{"<<", list(text("<<")), fails(141, 0, 141, 1)},
		{"<<a>", list(text("<"), start("a")), fails(141, 0)},
		{"<>", list(text("<>")), fails(141, 0)},
		{"< a>", list(text("< a>")), fails(141, 0)},
		{"a < b < c", list(text("a < b < c")), fails(141, 2, 141, 6)},
		{"1<2<3&lt;4", list(text("1<2<3<4")), fails(141, 1, 141, 3)},
		{"<1><@><[><`><{>", list(text("<1><@><[><`><{>")), fails(141, 0, 141, 3, 141, 6, 141, 9, 141, 12)}, // beside the letters
		{"<ä><\xff><\x00>", list(text("<ä><\xff><\x00>")), fails(141, 0, 141, 4, 141, 7)},
		{"<=><\"><'><-><.>", list(text("<=><\"><'><-><.>")), fails(141, 0, 141, 3, 141, 6, 141, 9, 141, 12)},
		{"&#0;a", list(text(odd + "a")), fails(130, 0)},
		{"<a>ä&#0;b&#55296;</a>", list(start("a"), text("ä"+odd+"b"+odd), end("a")), fails(130, 5, 130, 10)}, // places are bytes of the whole text
		{"&#0;<&#0;<", list(text(odd + "<" + odd + "<")), fails(130, 0, 141, 4, 130, 5, 141, 9)},             // in the order of the places
		{"&l<t;", list(text("&l")), fails(140, 2)},
		{"&#9<7;", list(text("&#9<7;")), fails(141, 3)}, // what a `<` parts is decoded apart
		{"&<lt;", list(text("&")), fails(140, 1)},
		{"a<!-->-->b", list(text("a"), comment(">"), text("b")), nil}, // a comment of nothing parts texts
		{"a<!---->b", list(text("a"), comment(""), text("b")), nil},
		{"a<!doctype>b", list(text("a"), doctype(""), text("b")), nil},
		{"a<b>c</b>d", list(text("a"), start("b"), text("c"), end("b"), text("d")), nil},
		{"a</b>c", list(text("a"), end("b"), text("c")), nil},
		{"a</>b", list(text("a"), comment(""), text("b")), fails(141, 1)},
		{"a<b/>c", list(text("a"), closed("b"), text("c")), nil},
	})
}

// P14.1: tags' names, up to a blank, a `/` or a `>`.
func TestNames(t *testing.T) {
	checkRows(t, []row{
		{"<a>", list(start("a")), nil},
		{"<A>", list(start("a")), nil},
		{"<z><Z>", list(start("z"), start("z")), nil},
		{"</a>", list(end("a")), nil},
		{"</A></z></Z>", list(end("a"), end("z"), end("z")), nil},
		{"<aB1-:_.Ä>", list(start("ab1-:_.Ä")), nil}, // only the great letters are made small
		{"<\u017fa>", list(text("<\u017fa>")), fails(141, 0)},
		{"<a\u212A>", list(start("a\u212A")), nil},
		{"<a\xff\x00\v>", list(start("a\xff\x00\v")), nil},
		{"<a=b>", list(start("a=b")), nil}, // an `=` ends no tag's name
		{"<a\"b'c>", list(start("a\"b'c")), nil},
		{"<a<b>", list(start("a<b")), nil},
		{"<a&lt;>", list(start("a&lt;")), nil}, // and is not decoded
		{"<a!--b-->", list(start("a!--b--")), nil},
		{"</a=B<c>", list(end("a=b<c")), nil},
		{"<a\tb><a\nb><a\fb><a\rb><a b>", list(start("a", "b", ""), start("a", "b", ""), start("a", "b", ""), start("a", "b", ""), start("a", "b", "")), nil},
		{"<a/b>", list(start("a", "b", "")), nil},
		{"</a\t></a\n></a\f></a\r></a ></a/>", list(end("a"), end("a"), end("a"), end("a"), end("a"), end("a")), nil},
		{"<br><BR/>", list(start("br"), closed("br")), nil},
	})
}

// P14.1: a start tag is Closed by a `/` that is left out right ahead of the `>`, and by nothing else.
func TestClosed(t *testing.T) {
	checkRows(t, []row{
		{"<a/>", list(closed("a")), nil},
		{"<a />", list(closed("a")), nil},
		{"<a//>", list(closed("a")), nil},
		{"<a / />", list(closed("a")), nil},
		{"<a/ >", list(start("a")), nil},
		{"<a/\n>", list(start("a")), nil},
		{"<a/ />", list(closed("a")), nil},
		{"<a b/>", list(closed("a", "b", "")), nil},
		{"<a b />", list(closed("a", "b", "")), nil},
		{"<a b/ >", list(start("a", "b", "")), nil},
		{"<a b >", list(start("a", "b", "")), nil},
		{"<a/b>", list(start("a", "b", "")), nil},
		{"<a/b/>", list(closed("a", "b", "")), nil},
		{"<a b=/>", list(start("a", "b", "/")), nil}, // it is the value's
		{"<a b=c/>", list(start("a", "b", "c/")), nil},
		{"<a b=c//>", list(start("a", "b", "c//")), nil},
		{"<a b=c />", list(closed("a", "b", "c")), nil},
		{"<a b='c'/>", list(closed("a", "b", "c")), nil},
		{"<a b=\"c\"/>", list(closed("a", "b", "c")), nil},
		{"<a b='/'>", list(start("a", "b", "/")), nil},
		{"<a b='c/'>", list(start("a", "b", "c/")), nil},
		{"<a b= />", list(start("a", "b", "/")), nil},
		{"<a b=''/ >", list(start("a", "b", "")), nil},
		{"<a =/>", list(closed("a", "=", "")), nil}, // a name is not a value
		{"</a/>", list(end("a")), nil},              // an end tag is never
		{"</a />", list(end("a")), nil},
		{"</a b=c />", list(end("a")), nil},
	})
}

// P14.1: attributes: where their names begin and end.
func TestAttrs(t *testing.T) {
	checkRows(t, []row{
		{"<a b c d>", list(start("a", "b", "", "c", "", "d", "")), nil},
		{"<a  B\t\n\f\r C/D//e>", list(start("a", "b", "", "c", "", "d", "", "e", "")), nil},
		{"<a c=1 b=2 a=3>", list(start("a", "c", "1", "b", "2", "a", "3")), nil}, // in order
		{"<a onClick=F() ÄöX>", list(start("a", "onclick", "F()", "Äöx", "")), nil},
		{"<a =>", list(start("a", "=", "")), nil}, // the first byte is the name's, whatever it is
		{"<a ==>", list(start("a", "=", "")), nil},
		{"<a ===b>", list(start("a", "=", "=b")), nil},
		{"<a =b=c>", list(start("a", "=b", "c")), nil},
		{"<a = =b>", list(start("a", "=", "b")), nil},
		{"<a \"b\">", list(start("a", "\"b\"", "")), nil},
		{"<a 'b c'>", list(start("a", "'b", "", "c'", "")), nil},
		{"<a \"=x>", list(start("a", "\"", "x")), nil},
		{"<a b\"c=d>", list(start("a", "b\"c", "d")), nil},
		{"<a <b>", list(start("a", "<b", "")), nil},
		{"<a <!--b-->", list(start("a", "<!--b--", "")), nil},
		{"<a &lt;=&lt;>", list(start("a", "&lt;", "<")), nil}, // names are not decoded
		{"<a b&amp;c>", list(start("a", "b&amp;c", "")), nil},
		{"<a \xff\x00=1 \v>", list(start("a", "\xff\x00", "1", "\v", "")), nil}, // 11 is no blank
		{"<a b=1/c=2>", list(start("a", "b", "1/c=2")), nil},
		{"<a b='1'c=2>", list(start("a", "b", "1", "c", "2")), nil}, // behind a quote there may be no blank
		{"<a b='1'c='2'>", list(start("a", "b", "1", "c", "2")), nil},
		{"<a b=''=c>", list(start("a", "b", "", "=c", "")), nil},
		{"<a b='1''2'>", list(start("a", "b", "1", "'2'", "")), nil},
		{"<a b/=c>", list(start("a", "b", "", "=c", "")), nil}, // a `/` lies between
		{"<a b /=c>", list(start("a", "b", "", "=c", "")), nil},
	})
}

// P14.1: attributes' values: in quotes, or up to the first blank or `>`.
func TestValues(t *testing.T) {
	checkRows(t, []row{
		{"<a b=c>", list(start("a", "b", "c")), nil},
		{"<a b=\"c\">", list(start("a", "b", "c")), nil},
		{"<a b='c'>", list(start("a", "b", "c")), nil},
		{"<a b=''>", list(start("a", "b", "")), nil},
		{"<a b=\"\">", list(start("a", "b", "")), nil},
		{"<a b=>", list(start("a", "b", "")), nil},
		{"<a b= >", list(start("a", "b", "")), nil},
		{"<a b =c>", list(start("a", "b", "c")), nil},
		{"<a b\t\n\f\r =\t\n\f\r c>", list(start("a", "b", "c")), nil},
		{"<a b = 'c'>", list(start("a", "b", "c")), nil},
		{"<a b = c = d>", list(start("a", "b", "c", "=", "", "d", "")), nil}, // behind a value an `=` begins a name
		{"<a b c=d>", list(start("a", "b", "", "c", "d")), nil},
		{"<a b= c=d>", list(start("a", "b", "c=d")), nil},
		{"<a b=C>", list(start("a", "b", "C")), nil}, // no letter is made small
		{"<a b=\"it's\" c='\"'>", list(start("a", "b", "it's", "c", "\"")), nil},
		{"<a b=' c>d/ '>", list(start("a", "b", " c>d/ ")), nil}, // quotes hold anything
		{"<a b=\"\n<x>\t\">", list(start("a", "b", "\n<x>\t")), nil},
		{"<a b=c'd\"e>", list(start("a", "b", "c'd\"e")), nil}, // quotes inside are as others
		{"<a b=c''>", list(start("a", "b", "c''")), nil},
		{"<a b=c=d<e/f>", list(start("a", "b", "c=d<e/f")), nil},
		{"<a b==>", list(start("a", "b", "=")), nil},
		{"<a b=='c'>", list(start("a", "b", "='c'")), nil},
		{"<a b=c\td=e\nf=g\fh=i\rj=k>", list(start("a", "b", "c", "d", "e", "f", "g", "h", "i", "j", "k")), nil},
		{"<a b=\v>", list(start("a", "b", "\v")), nil},
		{"<a b=\xff\x00ä>", list(start("a", "b", "\xff\x00ä")), nil},
		{"<a b='&lt;&amp;lt;' c=&#97;&quot; d=\"&apos;\">", list(start("a", "b", "<&lt;", "c", "a\"", "d", "'")), nil},
		{"<a b='&quot;&gt;' c=&gt;&#32;d>", list(start("a", "b", "\">", "c", "> d")), nil}, // what is decoded ends nothing
		{"<a b=&#39;c&#39; d>", list(start("a", "b", "'c'", "d", "")), nil},
		{"<a b='&l' t;>", list(start("a", "b", "&l", "t;", "")), nil},
		{"<a b=&lt c=&foo;>", list(start("a", "b", "&lt", "c", "&foo;")), nil},
		{"<a href=javascript&colon;f&lpar;&rpar;>", list(start("a", "href", "javascript:f()")), nil},
	})
}

// P14.1: Fails of values are at their places, in start tags and in end tags.
func TestValueFails(t *testing.T) {
	checkRows(t, []row{
		{"<a b=&#0;>", list(start("a", "b", odd)), fails(130, 5)},
		{"<a b='&#0;'>", list(start("a", "b", odd)), fails(130, 6)},
		{"<a b=\"x&#0;y&#x0;\" c=&#55296;>", list(start("a", "b", "x"+odd+"y"+odd, "c", odd)), fails(130, 7, 130, 12, 130, 21)},
		{"ä<a ä = 'ä&#0;'>&#0;", list(text("ä"), start("a", "ä", "ä"+odd), text(odd)), fails(130, 13, 130, 19)},
		{"<a &#0;>", list(start("a", "&#0;", "")), nil},
		{"<a&#0;>", list(start("a&#0;")), nil},
		{"</a b=&#0; c='&#0;' b=\"&#0;\">", list(end("a")), fails(130, 6, 130, 14, 130, 23)},
		{"</a &#0;>", list(end("a")), nil},
	})
}

// P14.1: of attributes of one name the first is taken; of each other one there is a Fail ahead of those of its value.
func TestTwice(t *testing.T) {
	checkRows(t, []row{
		{"<a b b>", list(start("a", "b", "")), fails(142, 5)},
		{"<a b=1 b=2 B=3>", list(start("a", "b", "1")), fails(142, 7, 142, 11)},
		{"<a B=1 b=2>", list(start("a", "b", "1")), fails(142, 7)},
		{"<a b c=1 b=2 c d>", list(start("a", "b", "", "c", "1", "d", "")), fails(142, 9, 142, 13)},
		{"<a b= b>", list(start("a", "b", "b")), nil}, // a value is no name
		{"<a a>", list(start("a", "a", "")), nil},     // nor is the tag's
		{"<a b=''b>", list(start("a", "b", "")), fails(142, 7)},
		{"<a = = = =>", list(start("a", "=", "=")), fails(142, 9)},
		{"<a b=1 b='&#0;' c=&#0;>", list(start("a", "b", "1", "c", odd)), fails(142, 7, 130, 10, 130, 18)},
		{"<a b=&#0; b=&#0;&#0; b>", list(start("a", "b", odd)), fails(130, 5, 142, 10, 130, 12, 130, 16, 142, 21)},
		{"<a ä Ä>", list(start("a", "ä", "", "Ä", "")), nil}, // unlike, as their letters are none of the 26
		{"<a b=&#0; b=1 b=2", nil, fails(140, 0)},
		{"</a b b=1 b=2>", list(end("a")), nil}, // an end tag has none at all
		{"<a b><a b>", list(start("a", "b", ""), start("a", "b", "")), nil},
	})
}

// P14.1: thirty attributes are taken; of each one behind there is a Fail.
func TestManyAttrs(t *testing.T) {
	for _, count := range []int{1, 29, 30, 31, 32, 60, 900} {
		all := attrs(count)
		want := row{tagOf(all), list(start("x", all[:2*min(count, 30)]...)), fails()}
		for n := 30; n < count; n++ {
			want.fails = append(want.fails, api.Fail{Code: api.ErrLimit, At: strings.Index(want.text, " "+all[2*n]+"=") + 1})
		}
		checkRow(t, want)
		checkRow(t, row{"</" + want.text[1:], list(end("x")), nil}) // an end tag has none, so none too many
		checkRow(t, row{want.text[:len(want.text)-1], nil, fails(140, 0)})
	}
}

// P14.1: which Fail there is, where there are thirty attributes; it is told ahead of those of the value.
func TestManyAndTwice(t *testing.T) {
	all := attrs(30)
	ahead := strings.TrimSuffix(tagOf(all), ">")
	at := len(ahead) + 1
	for _, x := range []struct {
		more  string
		fails []api.Fail
	}{
		{"a0", fails(142, at)},
		{"A29=&#0;", fails(142, at, 130, at+4)},
		{"b", fails(2, at)},
		{"b b", fails(2, at, 2, at+2)}, // what was not taken is not there twice
		{"b a0 b", fails(2, at, 142, at+2, 2, at+5)},
		{"b='&#0;' c=&#0;", fails(2, at, 130, at+3, 2, at+9, 130, at+11)},
	} {
		checkRow(t, row{ahead + " " + x.more + ">", list(start("x", all...)), x.fails})
	}
	// Twice there ahead of the thirtieth: the limit is reached one later.
	checkRow(t, row{"<x a0 " + tagOf(all)[len("<x "):], list(start("x", append([]string{"a0", ""}, all[2:]...)...)), fails(142, 6)})
	checkRow(t, row{"<x a0 a0 " + tagOf(attrs(31))[len("<x "):], list(start("x", append([]string{"a0", ""}, all[2:]...)...)), fails(142, 6, 142, 9, 2, len("<x a0 a0 ")+strings.Index(tagOf(attrs(31)), "a30")-len("<x "))})
}

// P14.1: a tag that the document ends in: one Fail, at its `<`, and all from there on is gone.
func TestCutTag(t *testing.T) {
	for _, tag := range []string{
		"<abc  d e = f g='h i' j=\"k\" l=& m=&#0; m=&#0; / n / >", "</abc  d e = f g='h i' m=&#0; m=&#0; / n / >", "<a/>", "<script src=x>", "</script >", "<a b='<c>d</c>'>",
	} {
		begin := len("<a")
		if strings.HasPrefix(tag, "</") {
			begin++
		}
		for cut := begin; cut < len(tag); cut++ {
			checkRow(t, row{tag[:cut], nil, fails(140, 0)})
			checkRow(t, row{"x&#0;<y>" + tag[:cut], list(text("x"+odd), start("y")), fails(130, 1, 140, 8)})
			checkRow(t, row{"<" + tag[:cut], list(text("<")), fails(141, 0, 140, 1)})
		}
	}
	checkRows(t, []row{
		{"<a b='c>d</a>", nil, fails(140, 0)}, // a quote that nothing ends
		{"<a b=\"c'>d</a>", nil, fails(140, 0)},
		{"<a b=c\"><d e='>f\"</d>", list(start("a", "b", "c\"")), fails(140, 8)},
		{"<a <b <c", nil, fails(140, 0)},
		{"<a b='", nil, fails(140, 0)},
		{"<a b='&#0;", nil, fails(140, 0)},
		{"<a b=&#0; b", nil, fails(140, 0)},
		{"<a " + strings.Repeat("b ", 99), nil, fails(140, 0)},
		{"</a", nil, fails(140, 0)},
	})
}

// P14.1: the text behind a start tag of a raw name, of the first two as it is, of the last two decoded.
func TestRawText(t *testing.T) {
	const data = "a<b>&lt;</b><!--x--><!doctype y></><a </x &#65; 1<2>'\""
	for _, name := range rawNames {
		told := data
		if name == "textarea" || name == "title" {
			told = strings.ReplaceAll(strings.ReplaceAll(data, "&lt;", "<"), "&#65;", "A")
		}
		for _, behind := range append([]string{"/", ">"}, blanks...) {
			tail := strings.TrimPrefix(behind, ">") + ">"
			checkRow(t, row{"<" + name + ">" + data + "</" + name + tail + "b&lt;", list(start(name), text(told), end(name), text("b<")), nil})
			checkRow(t, row{"<" + strings.ToUpper(name) + ">" + data + "</" + strings.ToUpper(name) + tail, list(start(name), text(told), end(name)), nil})
			checkRow(t, row{"<" + name + "></" + name[:1] + strings.ToUpper(name[1:]) + tail, list(start(name), end(name)), nil}) // no bytes, no token
		}
		for _, behind := range []string{"", "s", "1", "=", "<", "-", "\v", "\x00", "\xff", "!", "?", "\"", "'", "&gt;", "&#32;"} {
			s := "</" + name + behind
			decoded, _ := entity.Decode(s)
			if name[0] == 's' {
				decoded = s
			}
			checkRow(t, row{"<" + name + ">" + data + s + "</" + name + ">", list(start(name), text(told+decoded), end(name)), nil})
		}
		for _, other := range rawNames {
			if other != name {
				s := "<" + other + "></" + other + ">"
				checkRow(t, row{"<" + name + ">" + s + "</" + name + ">", list(start(name), text(s), end(name)), nil})
			}
		}
	}
}

// P14.1: raw texts that the document ends in, and those whose end tags it ends in.
func TestRawCut(t *testing.T) {
	for _, name := range rawNames {
		begin := "<" + name + ">"
		size := len(begin)
		told := "a"
		if name[0] == 's' {
			told = "&#97;"
		}
		checkRow(t, row{begin, list(start(name)), fails(140, size)}) // no bytes, no token, but it is cut
		checkRow(t, row{"x" + begin, list(text("x"), start(name)), fails(140, size+1)})
		checkRow(t, row{begin + "&#97;", list(start(name), text(told)), fails(140, size)})
		checkRow(t, row{begin + "&#97;<a>", list(start(name), text(told+"<a>")), fails(140, size)})
		checkRow(t, row{begin + "&#97;</" + name, list(start(name), text(told+"</"+name)), fails(140, size)})
		for _, behind := range append([]string{"/", " b='>"}, blanks...) { // the end tag is there, but is cut
			checkRow(t, row{begin + "&#97;</" + name + behind, list(start(name), text(told)), fails(140, size+len("&#97;"))})
			checkRow(t, row{begin + "</" + name + behind, list(start(name)), fails(140, size)})
		}
	}
}

// P14.1: of a raw element: what begins it, what ends it, what is cut, and what is not raw.
func TestRawEdges(t *testing.T) {
	checkRows(t, []row{
		{"<script/>a<b></script>", list(closed("script"), text("a<b>"), end("script")), nil}, // a Closed one is a TokenStart too
		{"<script src='a' nonce=n>f()</script\n>", list(start("script", "src", "a", "nonce", "n"), text("f()"), end("script")), nil},
		{"<script>a</script b=1 c='>'>d", list(start("script"), text("a"), end("script"), text("d")), nil},
		{"<script>a</script/>&lt;", list(start("script"), text("a"), end("script"), text("<")), nil},
		{"<script>a</script>b</script>&lt;", list(start("script"), text("a"), end("script"), text("b"), end("script"), text("<")), nil}, // up to the first one
		{"</script>a&lt;<b>", list(end("script"), text("a<"), start("b")), nil},                                                         // behind an end tag there is nothing raw
		{"<scripts>a&lt;</scripts>", list(start("scripts"), text("a<"), end("scripts")), nil},
		{"<xmp><b>&lt;</xmp>", list(start("xmp"), start("b"), text("<"), end("xmp")), nil},
		{"<a script><b>", list(start("a", "script", ""), start("b")), nil},
		{"<script>a&#0;<b", list(start("script"), text("a&#0;<b")), fails(140, 8)},
		{"<title>a&#0;<b&#0;", list(start("title"), text("a"+odd+"<b"+odd)), fails(130, 8, 130, 14, 140, 7)}, // behind those of the text
		{"<textarea>&#0;</textarea>", list(start("textarea"), text(odd), end("textarea")), fails(130, 10)},
		{"<title a=1 a=&#0;>&#0;", list(start("title", "a", "1"), text(odd)), fails(142, 11, 130, 13, 130, 18, 140, 18)},
		{"<style>&#0;</style>", list(start("style"), text("&#0;"), end("style")), nil},
		{"<script>a</script b='></script>", list(start("script"), text("a")), fails(140, 9)},
		{"<script></scrip></script>", list(start("script"), text("</scrip>"), end("script")), nil},
		{"<script>< /script></script>", list(start("script"), text("< /script>"), end("script")), nil},
		{"<script></ script></script>", list(start("script"), text("</ script>"), end("script")), nil},
		{"<script><</script>", list(start("script"), text("<"), end("script")), nil},
		{"<script></</script>", list(start("script"), text("</"), end("script")), nil},
		{"<script></</</script>", list(start("script"), text("</</"), end("script")), nil},
		{"<script></script</script>", list(start("script"), text("</script"), end("script")), nil},
		{"<script></\u017fcript></script>", list(start("script"), text("</\u017fcript>"), end("script")), nil}, // a long s is no s
		{"<script><!--</script>-->", list(start("script"), text("<!--"), end("script"), text("-->")), nil},     // a comment inside is none
		{"<script>'</script>'", list(start("script"), text("'"), end("script"), text("'")), nil},
		{"<script><script></script></script>", list(start("script"), text("<script>"), end("script"), end("script")), nil},
		{"<title>&lt;/title&gt;</title>", list(start("title"), text("</title>"), end("title")), nil}, // what is decoded ends nothing
		{"<title>&lt;/title>&#60;b></title>", list(start("title"), text("</title><b>"), end("title")), nil},
		{"<title>&<lt;</title>", list(start("title"), text("&<lt;"), end("title")), nil},
		{"<script", nil, fails(140, 0)},
		{"<script a='><b></script>", nil, fails(140, 0)},
		{"<!--<script>-->&lt;", list(comment("<script>"), text("<")), nil},
		{"<script>a</script><script>b</script><style>c</style>", list(start("script"), text("a"), end("script"), start("script"), text("b"), end("script"), start("style"), text("c"), end("style")), nil},
	})
}

// P14.1: comments, up to the next `-->`.
func TestComment(t *testing.T) {
	checkRows(t, []row{
		{"<!--a-->", list(comment("a")), nil},
		{"<!---->", list(comment("")), nil},
		{"<!--->", list(comment("->")), fails(140, 0)}, // what begins one is no part of what ends it
		{"<!-->", list(comment(">")), fails(140, 0)},
		{"<!--", list(comment("")), fails(140, 0)},
		{"<!--a", list(comment("a")), fails(140, 0)},
		{"<!--a--", list(comment("a--")), fails(140, 0)},
		{"<!--a--!>", list(comment("a--!>")), fails(140, 0)},
		{"<!--a-- >-->", list(comment("a-- >")), nil},
		{"<!--a--->", list(comment("a-")), nil},
		{"<!----->", list(comment("-")), nil},
		{"<!--a->b>c-->d-->", list(comment("a->b>c"), text("d-->")), nil},
		{"<!-- A &lt; <b> <!-- ' \n-->", list(comment(" A &lt; <b> <!-- ' \n")), nil}, // not decoded, not trimmed
		{"<!--&#0;-->", list(comment("&#0;")), nil},
		{"<!--\x00\xff-->", list(comment("\x00\xff")), nil},
		{"<!--a--><!--b-->", list(comment("a"), comment("b")), nil},
		{"a<!--b--><c>&#0;<!--d", list(text("a"), comment("b"), start("c"), text(odd), comment("d")), fails(130, 12, 140, 16)},
	})
}

// P14.1: doctypes, up to the next `>`.
func TestDoctype(t *testing.T) {
	checkRows(t, []row{
		{"<!doctype html>", list(doctype("html")), nil},
		{"<!DOCTYPE html><!DocType HTML>", list(doctype("html"), doctype("HTML")), nil}, // what is behind stays as it is
		{"<!doctype>", list(doctype("")), nil},
		{"<!doctype >", list(doctype("")), nil},
		{"<!doctypehtml>", list(doctype("html")), nil},
		{"<!doctype \t\n\f\ra  b\r\n>c", list(doctype("a  b"), text("c")), nil},
		{"<!doctype\va\v>", list(doctype("\va\v")), nil},
		{"<!doctype a '>' b>", list(doctype("a '"), text("' b>")), nil},
		{"<!doctype a<b &lt;&#0;>", list(doctype("a<b &lt;&#0;")), nil},
		{"<!doctype--x-->", list(doctype("--x--")), nil},
		{"<!doctype a/>", list(doctype("a/")), nil},
		{"<!doctype", list(doctype("")), fails(140, 0)},
		{"<!doctype  a ", list(doctype("a")), fails(140, 0)},
		{"a<!doctype b<c", list(text("a"), doctype("b<c")), fails(140, 1)},
		{"<!doctyp>", list(comment("doctyp")), fails(141, 0)},
		{"<! doctype>", list(comment(" doctype")), fails(141, 0)},
		{"<!dooctype>", list(comment("dooctype")), fails(141, 0)},
	})
}

// P14.1: what begins with `<!`, `<?` or `</` else is a comment, and a Fail.
func TestOther(t *testing.T) {
	checkRows(t, []row{
		{"<!>", list(comment("")), fails(141, 0)},
		{"<?>", list(comment("")), fails(141, 0)},
		{"</>", list(comment("")), fails(141, 0)},
		{"<!a>", list(comment("a")), fails(141, 0)},
		{"<?xml A?>", list(comment("xml A?")), fails(141, 0)},
		{"</ a>", list(comment(" a")), fails(141, 0)},
		{"</1></@></[></`></{></ä></\xff>", list(comment("1"), comment("@"), comment("["), comment("`"), comment("{"), comment("ä"), comment("\xff")), fails(141, 0, 141, 4, 141, 8, 141, 12, 141, 16, 141, 20, 141, 25)},
		{"<!-a-->b", list(comment("-a--"), text("b")), fails(141, 0)}, // up to the first `>`
		{"<!->", list(comment("-")), fails(141, 0)},
		{"<!-", list(comment("-")), fails(141, 0, 140, 0)},
		{"<![CDATA[a<b>]]>", list(comment("[CDATA[a<b"), text("]]>")), fails(141, 0)},
		{"<!ä &lt;&#0; '>'>", list(comment("ä &lt;&#0; '"), text("'>")), fails(141, 0)},
		{"<! a >", list(comment(" a ")), fails(141, 0)}, // not trimmed
		{"<!", list(comment("")), fails(141, 0, 140, 0)},
		{"<?", list(comment("")), fails(141, 0, 140, 0)},
		{"</", list(comment("")), fails(141, 0, 140, 0)},
		{"<!a", list(comment("a")), fails(141, 0, 140, 0)},
		{"<?a<b", list(comment("a<b")), fails(141, 0, 140, 0)},
		{"</ a", list(comment(" a")), fails(141, 0, 140, 0)},
		{"<//a>", list(comment("/a")), fails(141, 0)},
		{"</ />", list(comment(" /")), fails(141, 0)},
		{"<</a>", list(text("<"), end("a")), fails(141, 0)},
		{"&#0;</ ", list(text(odd), comment(" ")), fails(130, 0, 141, 4, 140, 4)},
		{"</\n></a>", list(comment("\n"), end("a")), fails(141, 0)},
	})
}

// P14.1: a text of 20000 bytes is told, a longer one not.
func TestLimit(t *testing.T) {
	for _, piece := range []string{"a", "<", "&", "<a>", "<a/>", "<a b=c>", "&#0;", "</>", "<!---->", "<!--", "<a ", "<script>", "</script>", "<script>a</script>", "\xff", "<!doctype>", "<b c='", "ä"} {
		s := strings.Repeat(piece, api.MaxText+1)
		checkModel(t, s[:api.MaxText-1])
		checkModel(t, s[:api.MaxText])
		for _, long := range []string{s[:api.MaxText+1], s, s[:api.MaxText] + ">"} {
			if l, f, err := token.Tokens(long); len(l) > 0 || len(f) > 0 || err != api.ErrLimit {
				t.Errorf("P14.1: Tokens of %d bytes: %d tokens, %d Fails, %d", len(long), len(l), len(f), err)
			}
		}
	}
}

// P14.1: each byte, and each pair, where it may begin or end something.
func TestBytes(t *testing.T) {
	places := [][2]string{
		{"", ""}, {"<", ""}, {"<", ">"}, {"</", ">"}, {"<!", ">"}, {"<?", ">"}, {"<a", ">"}, {"<a", "b>"}, {"<a ", ">"}, {"<a ", "=c>"}, {"<a b", ">"}, {"<a b", "=c>"}, {"<a b ", "c>"}, {"<a b=", ">"}, {"<a b=", "c>"}, {"<a b=c", ">"}, {"<a b=c", "d>"}, {"<a b='", "'>"}, {"<a b=\"", "\">"}, {"<a b='c'", ">"}, {"<a b=c ", "/>"}, {"</a", ">"}, {"</a b", "c>"},
		{"<script>a</script", ">b"}, {"<script", ">a</script>"}, {"<title>&lt;</titl", "e>"}, {"<title>", "/title>"}, {"<title>a<", "/title></title>"},
		{"<!-", "-->"}, {"<!--", "-->"}, {"<!--a-", "->"}, {"<!--a--", ">"}, {"<!doctype", "a>"}, {"<!doctyp", "e>"}, {"<!doctype a", ">"}, {"a", "b<c>"}, {"&", "t;<a>"},
	}
	for _, place := range places {
		for a := range 256 {
			one := string([]byte{byte(a)})
			checkModel(t, place[0]+one+place[1])
			for _, two := range []string{one + "<", "<" + one, one + ">", ">" + one, one + "/", "/" + one, one + " ", "\n" + one, one + "=", "=" + one, one + "'", "\"" + one, one + "-", "-" + one, "a" + one, one + "&#0;"} {
				checkModel(t, place[0]+two+place[1])
			}
		}
	}
}

// P14.1 to P14.3: all rows of the signs, of pieces of tags, and of whole ones.
func TestRows(t *testing.T) {
	for count := range 7 {
		eachRow(strings.Split("<>/a =\"'", ""), count, func(s string) { checkModel(t, s); checkModel(t, "<a"+s+">") })
	}
	pieces := []string{"<", ">", "</", "/>", "<a", " b", "=", "'", "&#0;", "<!", "--", "<!doctype", "?", "title", "</title", "\t", "A"}
	for count := range 5 {
		eachRow(pieces, count, func(s string) { checkModel(t, s); checkModel(t, "<title>"+s+">") })
	}
	tokens := []string{"a", "<", "&lt;", "&#0;", "<b>", "<b c='1' C=&#0;/>", "</b d=&#0;>", "<!--x-->", "<!--", "<!doctype y>", "</>", "<script>", "</script>", "<TITLE>", "</title >", "<b", "<style/>", "</style"}
	for count := range 5 {
		eachRow(tokens, count, func(s string) { checkModel(t, s) })
	}
}

// P14.1 to P14.3: long rows of all kinds of pieces; which ones, is always the same.
func TestLongRows(t *testing.T) {
	pieces := []string{"<", ">", "/", "=", "'", "\"", "!", "-", "--", "?", "&", ";", "&lt;", "&#0;", "&#97;", " ", "\n", "\v", "a", "A", "b", "ä", "\xff", "<a", "</a>", "<b ", "/>", "c=", "c='", "<!--", "-->", "<!doctype ", "<script>", "</script>", "<title>", "</TITLE ", "<style ", "</style/", "<textarea", "</textarea>"}
	r := rand.New(rand.NewPCG(14, 1))
	for range 60000 {
		s := ""
		for range 1 + r.IntN(30) {
			s += pieces[r.IntN(len(pieces))]
		}
		checkModel(t, s)
	}
}

// P14.2: each kind's text, and what has none.
func TestPrint(t *testing.T) {
	for _, x := range []struct {
		tokens []api.Token
		want   string
	}{
		{nil, ""},
		{list(text("")), ""},
		{list(text("a<b>&\"'")), "a&lt;b&gt;&amp;&quot;&apos;"},
		{list(text("&lt;")), "&amp;lt;"},
		{list(text("ä\xff\x00\n")), "ä\xff\x00\n"},
		{list(text("a"), text("<")), "a&lt;"},
		{list(start("a")), "<a>"},
		{list(closed("a")), "<a/>"},
		{list(start("a", "b", "")), `<a b="">`},
		{list(start("a", "c", "1", "b", "2")), `<a c="1" b="2">`},
		{list(closed("a", "b", "c")), `<a b="c"/>`},
		{list(start("a", "b", "<&>\"'/ =\n")), "<a b=\"&lt;&amp;&gt;&quot;&apos;/ =\n\">"},
		{list(start("a", "b", "1", "b", "2")), `<a b="1" b="2">`}, // what could not be read is printed all the same
		{list(start("A<b", "C d", "e")), `<A<b C d="e">`},
		{list(start("", "", "")), `< ="">`},
		{list(end("a")), "</a>"},
		{list(end("A&")), "</A&>"},
		{list(comment("")), "<!---->"},
		{list(comment("a<b&-->c")), "<!--a<b&-->c-->"},
		{list(doctype("")), "<!doctype >"},
		{list(doctype("html")), "<!doctype html>"},
		{list(doctype(" a<&>")), "<!doctype  a<&>>"},
		{list(start("b"), text("<"), end("b"), comment("x"), text(">"), doctype("y")), "<b>&lt;</b><!--x-->&gt;<!doctype y>"},
		// What a kind has no use for is not told.
		{list(api.Token{Kind: api.TokenText, Name: "n", Data: "d", Attrs: []api.Attr{{Name: "a"}}, Closed: true}), "d"},
		{list(api.Token{Kind: api.TokenStart, Name: "n", Data: "d"}), "<n>"},
		{list(api.Token{Kind: api.TokenEnd, Name: "n", Data: "d", Attrs: []api.Attr{{Name: "a"}}, Closed: true}), "</n>"},
		{list(api.Token{Kind: api.TokenComment, Name: "n", Data: "d", Attrs: []api.Attr{{Name: "a"}}, Closed: true}), "<!--d-->"},
		{list(api.Token{Kind: api.TokenDoctype, Name: "n", Data: "d", Attrs: []api.Attr{{Name: "a"}}, Closed: true}), "<!doctype d>"},
	} {
		checkPrint(t, x.tokens, x.want)
	}
	for _, kind := range []api.TokenKind{0, 6, 7, -1, math.MaxInt, math.MinInt} {
		odd := api.Token{Kind: kind, Name: "n", Data: "d", Attrs: []api.Attr{{Name: "a"}}, Closed: true}
		checkPrint(t, list(odd), "")
		checkPrint(t, list(start("a"), odd, text("<"), odd, odd, end("a")), "<a>&lt;</a>")
	}
}

// checkPrint asks for the text of tokens, and holds the model against it too.
func checkPrint(t *testing.T, l []api.Token, want string) {
	t.Helper()
	if got := token.Print(l); got != want {
		t.Errorf("P14.2: Print(%+v): %q, not %q", l, got, want)
	}
	if model := modelPrint(l); model != want {
		t.Errorf("the model prints %+v as %q, not %q", l, model, want)
	}
}

// P14.2: behind a start tag of `script` or `style` text is as it is.
func TestPrintRaw(t *testing.T) {
	const data, code = "a<b>&amp;</script>'", "a&lt;b&gt;&amp;amp;&lt;/script&gt;&apos;"
	for _, name := range []string{"script", "style"} {
		checkPrint(t, list(start(name), text(data), end(name)), "<"+name+">"+data+"</"+name+">")
		checkPrint(t, list(closed(name, "a", "&"), text(data)), "<"+name+" a=\"&amp;\"/>"+data)
		checkPrint(t, list(start(name), text(data), text(data)), "<"+name+">"+data+code) // the second one stands behind a text
		checkPrint(t, list(start(name), end(name), text(data)), "<"+name+"></"+name+">"+code)
		checkPrint(t, list(start(name), comment(""), text(data)), "<"+name+"><!---->"+code)
		checkPrint(t, list(start(name), start("b"), text(data)), "<"+name+"><b>"+code)
		checkPrint(t, list(start(name), start(name), text(data)), "<"+name+"><"+name+">"+data)
		checkPrint(t, list(start(name), api.Token{}, text(data)), "<"+name+">"+code)
		checkPrint(t, list(end(name), text(data)), "</"+name+">"+code)
		checkPrint(t, list(comment(name), text(data)), "<!--"+name+"-->"+code)
		checkPrint(t, list(api.Token{Kind: 9, Name: name}, text(data)), code)
		checkPrint(t, list(api.Token{Kind: api.TokenText, Name: name}, text(data)), code)
		checkPrint(t, list(start(strings.ToUpper(name)), text(data)), "<"+strings.ToUpper(name)+">"+code)
	}
	for _, name := range []string{"title", "textarea", "b", "scripts", "", "xmp"} {
		checkPrint(t, list(start(name), text(data), end(name)), "<"+name+">"+code+"</"+name+">")
	}
	checkPrint(t, list(text(data), start("script")), code+"<script>")
}

// P14.3: the tokens of a text that has no Fail are those of their Print.
func TestBack(t *testing.T) {
	for _, s := range []string{
		"", "a&lt;b&amp;lt;", "<a>b</a>", "<A B=c/D='e'/>f<br>", "<a b=c/>", "<a =b==c>", "<a \"b'=\"'\">", "<a b='&quot;&apos;&amp;quot;'>",
		"<script>a<b&lt;</script><style/>&amp;</style >", "<textarea>&lt;/textarea></TEXTAREA><title>&amp;lt;<b></title/>", "<script></script>",
		"<!doctypehtml><!DOCTYPE  a ><!---->x<!-- - -->", "\x00\xff<a\xff b\xff=\xff>\xff</a\xff>", "</a b=c d><p\n>",
	} {
		l, f, err := token.Tokens(s)
		if len(f) > 0 || err != api.OK {
			t.Errorf("P14.1: Tokens(%q): %v, %d", s, f, err)
		}
		code := token.Print(l)
		again, f, err := token.Tokens(code)
		if !same(again, l) || len(f) > 0 || err != api.OK {
			t.Errorf("P14.3: Tokens(%q): %+v, %v, %d, not %+v", code, again, f, err, l)
		}
		if twice := token.Print(again); twice != code {
			t.Errorf("P14.3: of %q: %q, and again %q", s, code, twice)
		}
	}
}

// P14.3, T2: a text without `<` is one TokenText; so is what is encoded, of itself.
func TestOneText(t *testing.T) {
	for _, s := range []string{"a", " ", ">", "&", "&lt;script&gt;", "&#0;&foo;", "--></a>", "<", "<script>f()</script>", "<a b='c'><!--", "</", "<!doctype x>", allBytes(), odd, strings.Repeat("&<'", 1000)} {
		without := strings.ReplaceAll(s, "<", "")
		want, wantFails := entity.Decode(without)
		l, f, err := token.Tokens(without)
		if without != "" && !same(l, list(text(want))) || without == "" && len(l) > 0 || !slices.Equal(f, wantFails) || err != api.OK {
			t.Errorf("P14.3: Tokens(%.99q): %+v, %v, %d", without, l, f, err)
		}
		if l, f, err := token.Tokens(entity.Encode(s)); !same(l, list(text(s))) || len(f) > 0 || err != api.OK {
			t.Errorf("T2: Tokens of %.99q, encoded: %+v, %v, %d", s, l, f, err)
		}
	}
}

// T2: a value that is encoded makes no attribute, whatever stands around it.
func TestOneValue(t *testing.T) {
	for _, s := range []string{"", "a", "'", "\"", ">", "/>", "' b='c", "\" b=\"c", "'><script>", "&quot;", "&#0;", allBytes()} {
		for _, sign := range []string{"'", "\""} {
			checkRow(t, row{"<a b=" + sign + entity.Encode(s) + sign + "/>", list(closed("a", "b", s)), nil})
		}
	}
}

// R2: lists are new, and no two of one answer share their memory; what is handed in stays.
func TestNewLists(t *testing.T) {
	const s = "<a b=1 c=2 c><d e=3 f=4>&#0;"
	want := list(start("a", "b", "1", "c", "2"), start("d", "e", "3", "f", "4"), text(odd))
	spoil := func(l []api.Token, f []api.Fail) {
		for at := range l {
			attrs := l[at].Attrs
			clear(attrs)
			_ = append(attrs[:0], slices.Repeat([]api.Attr{{Name: "x", Value: "x"}}, cap(attrs))...)
		}
		clear(l[:cap(l)])
		clear(f[:cap(f)])
	}
	first, f, _ := token.Tokens(s)
	second, g, _ := token.Tokens(s)
	spoil(first, f)
	if !same(second, want) || !slices.Equal(g, fails(142, 11, 130, 24)) {
		t.Errorf("R2: two answers share memory: %+v, %v", second, g)
	}
	_ = append(second[0].Attrs, api.Attr{Name: "x"})
	_ = append(second[:1], api.Token{})
	if !same(second[:1], want[:1]) {
		t.Errorf("R2: %+v", second)
	}
	third, _, _ := token.Tokens(s)
	_ = append(third[0].Attrs[:0], slices.Repeat([]api.Attr{{Name: "x"}}, cap(third[0].Attrs))...)
	if !same(third[1:], want[1:]) {
		t.Errorf("R2: two lists of one answer share memory: %+v", third)
	}
	checkRow(t, row{s, want, fails(142, 11, 130, 24)})
	token.Print(want)
	if !same(want, list(start("a", "b", "1", "c", "2"), start("d", "e", "3", "f", "4"), text(odd))) {
		t.Errorf("R2: Print has changed its tokens: %+v", want)
	}
}

// R1, R4: many tokens, with texts of any bytes.
func TestPrintLong(t *testing.T) {
	const count = 100000
	l, want := []api.Token{}, strings.Builder{}
	for range count {
		l = append(l, start("script"), text("<"), text("<"), closed("\xff", "\x00", "'"))
		want.WriteString("<script><&lt;<\xff \x00=\"&apos;\"/>")
	}
	if got := token.Print(l); got != want.String() {
		t.Errorf("P14.2: %d tokens are printed as %d bytes", len(l), len(got))
	}
	long := strings.Repeat("a<", count)
	if got := token.Print(list(start(long, long, long), end(long))); got != "<"+long+" "+long+"=\""+strings.ReplaceAll(long, "<", "&lt;")+"\"></"+long+">" {
		t.Errorf("P14.2: long names are printed as %d bytes", len(got))
	}
}
