package header_test

import (
	"fmt"
	"slices"
	"strconv"
	"strings"
	"testing"

	"pounce/api"
	"pounce/header"
)

// equal answers whether two lists of policies are the same; a list that is empty may be nil.
func equal(a, b []api.Policy) bool {
	return slices.EqualFunc(a, b, func(p, q api.Policy) bool {
		return p.Report == q.Report && slices.EqualFunc(p.Directives, q.Directives, func(d, e api.Directive) bool {
			return d.Name == e.Name && slices.Equal(d.Words, e.Words)
		})
	})
}

// dir answers a directive.
func dir(name string, words ...string) api.Directive { return api.Directive{Name: name, Words: words} }

// pol answers a policy that is no report.
func pol(directives ...api.Directive) api.Policy { return api.Policy{Directives: directives} }

// copied answers a policy that shares no list with p.
func copied(p api.Policy) api.Policy {
	p.Directives = slices.Clone(p.Directives)
	for at := range p.Directives {
		p.Directives[at].Words = slices.Clone(p.Directives[at].Words)
	}
	return p
}

// many answers texts: what stands ahead, and a number each.
func many(ahead string, count int) []string {
	list := make([]string, count)
	for at := range list {
		list[at] = ahead + strconv.Itoa(at)
	}
	return list
}

// checkParse holds what a text is read as, as a report and not, against the model, and against what follows from the promises.
func checkParse(t *testing.T, s string) {
	t.Helper()
	for _, report := range []bool{false, true} {
		l := header.Parse(s, report)
		if want := modelParse(s, report); !equal(l, want) {
			t.Fatalf("P8.1: Parse(%.999q, %t): %+v, not %+v", s, report, l, want)
		}
		for _, p := range l {
			text, ok := header.Print(p)
			if !ok {
				t.Fatalf("P8.4: of %.999q: %+v is not right", s, p)
			}
			if again := header.Parse(text, report); !equal(again, []api.Policy{p}) {
				t.Fatalf("P8.4: Parse(%q, %t): %+v, not %+v alone", text, report, again, p)
			}
		}
	}
}

// checkPrint holds a policy's text against the model; it is parsed as the policy alone.
func checkPrint(t *testing.T, p api.Policy) {
	t.Helper()
	text, ok := header.Print(p)
	if want, right := modelPrint(p); text != want || ok != right {
		t.Fatalf("P8.3: Print(%+v): %q, %t, not %q, %t", p, text, ok, want, right)
	}
	if ok && !equal(header.Parse(text, p.Report), []api.Policy{p}) {
		t.Fatalf("P8.4: Parse(%q, %t) is not %+v alone", text, p.Report, p)
	}
}

// P8.1: the chapter's examples, and texts written out by hand.
func TestParse(t *testing.T) {
	for _, row := range []struct {
		text string
		want []api.Policy
	}{
		{"Script-Src 'self' https:; x y, ;default-src", []api.Policy{pol(dir("script-src", "'self'", "https:"), dir("x", "y")), pol(dir("default-src"))}},
		{"a 1; A 2;; , ,b", []api.Policy{pol(dir("a", "1")), pol(dir("b"))}},
		{"", nil},
		{" \t\n\f\r", nil},
		{";;,;,,", nil},
		{"a", []api.Policy{pol(dir("a"))}},
		{" a ", []api.Policy{pol(dir("a"))}},
		{"A", []api.Policy{pol(dir("a"))}},
		{"\r\na\t1\f2\n;\tb\r3,c\n", []api.Policy{pol(dir("a", "1", "2"), dir("b", "3")), pol(dir("c"))}},
		{"b 2;a 1;b 3;c;A", []api.Policy{pol(dir("b", "2"), dir("a", "1"), dir("c"))}},            // in order, and the first one of a name
		{"a 1,a 2,A 3", []api.Policy{pol(dir("a", "1")), pol(dir("a", "2")), pol(dir("a", "3"))}}, // another policy may have it too
		{"a;a x;a y", []api.Policy{pol(dir("a"))}},
		{"a X Y x X", []api.Policy{pol(dir("a", "X", "Y", "x", "X"))}}, // words stay as they are, twice too
		{"a B;B A", []api.Policy{pol(dir("a", "B"), dir("b", "A"))}},
		{"a'b c;d", []api.Policy{pol(dir("d"))}}, // what has no name is none at all
		{"a_b 1", nil},
		{"a.b 1", nil},
		{"a: 1", nil},
		{"'none'", nil},
		{"* a", nil},
		{"* a;a *", []api.Policy{pol(dir("a", "*"))}},
		{"ä 1,\xff 2,a\x00 3", nil},
		{"\u212A 1", nil}, // the sign of Kelvin is no k
		{"-;0;9-z -", []api.Policy{pol(dir("-"), dir("0"), dir("9-z", "-"))}},
		{"a \x00 b \x7f c \xff ä d\x1f e", []api.Policy{pol(dir("a", "b", "c", "e"))}}, // what is no word is not there
		{"a \v b\vc d", []api.Policy{pol(dir("a", "d"))}},                              // 11 is no blank
		{"a\v b;c", []api.Policy{pol(dir("c"))}},
		{"a \u00a0 b", []api.Policy{pol(dir("a", "b"))}},
		{"a \xff", []api.Policy{pol(dir("a"))}}, // no word is left, but the directive is
		{"a ! ~ +-.:<=>\"#$%&()/?@[\\]^_`{|}", []api.Policy{pol(dir("a", "!", "~", "+-.:<=>\"#$%&()/?@[\\]^_`{|}"))}},
		{"a 'b;c' \"d,e f\"", []api.Policy{pol(dir("a", "'b")), pol(dir("e", "f\""))}}, // quotes hold nothing together
		{",a,", []api.Policy{pol(dir("a"))}},
		{";a;", []api.Policy{pol(dir("a"))}},
		{"a,!;b", []api.Policy{pol(dir("a")), pol(dir("b"))}},
		{"a,!;?,b", []api.Policy{pol(dir("a")), pol(dir("b"))}},
	} {
		for _, report := range []bool{false, true} {
			want := slices.Clone(row.want)
			for at := range want {
				want[at].Report = report
			}
			if l := header.Parse(row.text, report); !equal(l, want) {
				t.Errorf("P8.1: Parse(%q, %t): %+v, not %+v", row.text, report, l, want)
			}
		}
		checkParse(t, row.text)
	}
}

// P8.1, P8.3: each byte, at places of a name, of a word, and of what parts them.
func TestEachByte(t *testing.T) {
	for n := range 256 {
		c := string([]byte{byte(n)})
		for _, s := range []string{c, c + c, "a" + c, c + "a", "a" + c + "b", "a " + c, "a b" + c, "a " + c + "b", "a b" + c + "c", "a" + c + "a", "a 1;b" + c + "A 2", "a 1" + c + ";a 2", "a 1" + c + ",a 2"} {
			checkParse(t, s)
		}
		for _, s := range []string{c, "a" + c, c + "a", "a" + c + "b"} {
			checkPrint(t, pol(dir(s)))
			checkPrint(t, pol(dir("x", s)))
			checkPrint(t, pol(dir("x", "a", s, "b"), dir(s, "c")))
		}
		small := 'a' <= n && n <= 'z' || '0' <= n && n <= '9' || n == '-'
		if text, ok := header.Print(pol(dir(c))); ok != small || ok && text != c {
			t.Errorf("P8.3: Print of the name %q: %q, %t", c, text, ok)
		}
		word := 33 <= n && n <= 126 && n != ',' && n != ';'
		if text, ok := header.Print(pol(dir("x", c))); ok != word || ok && text != "x "+c {
			t.Errorf("P8.3: Print of the word %q: %q, %t", c, text, ok)
		}
	}
}

// P8.1, P8.4: all short texts of the signs that play a part.
func TestAgainstModel(t *testing.T) {
	for _, row := range []struct {
		signs   string
		longest int
	}{{"aA -;,", 6}, {"a1B\t;,!", 5}, {"ab\v\xff\x7f _;,", 4}} {
		for _, s := range texts(row.signs, row.longest) {
			checkParse(t, s)
		}
	}
}

// P8.1: a name has at most 40 bytes; a word may have any number.
func TestLongNames(t *testing.T) {
	for size := range 100 {
		name := strings.Repeat("N", size)
		checkParse(t, name+" 1;b")
		checkPrint(t, pol(dir(strings.Repeat("n", size), "1")))
		_, there := header.Find(header.Parse(name+" 1;b", false)[0], name)
		_, right := header.Print(pol(dir(strings.ToLower(name))))
		if want := 1 <= size && size <= api.MaxName; there != want || right != want {
			t.Errorf("P8.1: a name of %d bytes: %t, %t", size, there, right)
		}
	}
	word := strings.Repeat("W", 100000)
	if l := header.Parse("a "+word, false); !equal(l, []api.Policy{pol(dir("a", word))}) {
		t.Errorf("P8.1: a long word is not there")
	}
	if text, ok := header.Print(pol(dir("a", word))); !ok || text != "a "+word {
		t.Errorf("P8.3: a long word is not right")
	}
}

// P8.1, P8.3: a directive has at most 200 words; those that are none are counted among the first 200.
func TestManyWords(t *testing.T) {
	for _, count := range []int{0, 1, 2, 199, 200, 201, 202, 399, 400, 401, 5000} {
		words := many("w", count)
		kept := words[:min(count, api.MaxWords)]
		text := "a " + strings.Join(words, " ")
		if l := header.Parse(text+";b x", false); !equal(l, []api.Policy{pol(dir("a", kept...), dir("b", "x"))}) {
			t.Errorf("P8.1: of %d words: %+v", count, l)
		}
		checkParse(t, text)
		checkPrint(t, pol(dir("b"), dir("a", words...)))
		if _, ok := header.Print(pol(dir("b"), dir("a", words...))); ok != (count <= api.MaxWords) {
			t.Errorf("P8.3: %d words: %t", count, ok)
		}
	}
	words := many("w", 300)
	for at := 0; at < 250; at += 10 {
		words[at] = "\xff"
	}
	text := "a " + strings.Join(words, " ")
	checkParse(t, text)
	list, _ := header.Find(header.Parse(text, false)[0], "a")
	if len(list) != 180 || list[0] != "w1" || list[179] != "w199" {
		t.Errorf("P8.1: of 200 words, 20 of them none, and 100 more: %d", len(list))
	}
}

// P8.1: of the policies only the first ten are there; what is no policy does not count.
func TestManyPolicies(t *testing.T) {
	for count := range 25 {
		names := many("p", count)
		first := []api.Policy{}
		for _, name := range names[:min(count, api.MaxPolices)] {
			first = append(first, pol(dir(name)))
		}
		for _, between := range []string{",", " , ", ",,", ", ;;, * x,"} {
			for _, ahead := range []string{"", ",,,,,,,,,,,,", "!,?;*,"} {
				s := ahead + strings.Join(names, between) + between
				if l := header.Parse(s, false); !equal(l, first) {
					t.Errorf("P8.1: Parse(%q): %+v", s, l)
				}
				checkParse(t, s)
			}
		}
	}
}

// P8.1: a policy may have any number of directives.
func TestManyDirectives(t *testing.T) {
	names := many("d-", 1000)
	want := api.Policy{Report: true}
	for _, name := range names {
		want.Directives = append(want.Directives, dir(name, "x"))
	}
	s := strings.Join(names, " x;") + " x"
	if l := header.Parse(s+";"+strings.ToUpper(s)+" y", true); !equal(l, []api.Policy{want}) {
		t.Errorf("P8.1: of 1000 directives, and each again: %d", len(l[0].Directives))
	}
	if text, ok := header.Print(want); !ok || text != strings.ReplaceAll(s, ";", "; ") {
		t.Errorf("P8.3: Print of 1000 directives: %.99q, %t", text, ok)
	}
	want.Directives = append(want.Directives, dir("d-7"))
	if text, ok := header.Print(want); ok || text != "" {
		t.Errorf("P8.3: Print of a name that is there already: %.99q, %t", text, ok)
	}
}

// P8.2: policies as they are read, and others that are not right.
func TestFind(t *testing.T) {
	read := header.Parse("Script-Src 'self' https:; x Y y, default-src", true)[0]
	odd := pol(dir("A", "great"), dir("a", "one"), dir("a", "two"), dir("", "none", "", "\xff", "b c"), dir("\xff", "odd"), dir("b"), dir("b", "late"))
	for _, row := range []struct {
		p     api.Policy
		name  string
		words []string
		ok    bool
	}{
		{read, "script-src", []string{"'self'", "https:"}, true},
		{read, "SCRIPT-src", []string{"'self'", "https:"}, true},
		{read, "x", []string{"Y", "y"}, true},
		{read, "X", []string{"Y", "y"}, true},
		{read, "default-src", nil, false}, // it is another policy's
		{read, "script", nil, false},
		{read, "script-src-elem", nil, false},
		{read, "script-src ", nil, false},
		{read, " x", nil, false},
		{read, "", nil, false},
		{read, "'self'", nil, false},
		{read, "\xff", nil, false},
		{header.Parse("default-src", false)[0], "default-src", nil, true}, // it has no words, but is there
		{odd, "a", []string{"one"}, true},                                 // the first one of that name
		{odd, "A", []string{"one"}, true},                                 // the name that is asked for is made small, not those that are there
		{odd, "", []string{"none", "", "\xff", "b c"}, true},
		{odd, "\xff", []string{"odd"}, true},
		{odd, "b", nil, true},
		{odd, "c", nil, false},
		{api.Policy{}, "a", nil, false},
		{api.Policy{}, "", nil, false},
		{pol(dir("ä", "x")), "Ä", nil, false}, // no letter of those that are made small
		{pol(dir("k", "x")), "\u212A", nil, false},
		{pol(dir("a", many("w", 999)...)), "a", many("w", 999), true},
	} {
		words, ok := header.Find(row.p, row.name)
		if ok != row.ok || !slices.Equal(words, row.words) {
			t.Errorf("P8.2: Find(%+v, %q): %q, %t, not %q, %t", row.p, row.name, words, ok, row.words, row.ok)
		}
	}
}

// P8.2: each directive of what is read is found, by its name in letters of any size.
func TestFindRead(t *testing.T) {
	for _, s := range texts("aB-! ;", 6) {
		for _, p := range header.Parse(s, false) {
			for _, d := range p.Directives {
				for _, name := range []string{d.Name, strings.ToUpper(d.Name)} {
					if words, ok := header.Find(p, name); !ok || !slices.Equal(words, d.Words) {
						t.Fatalf("P8.2: Find(%+v, %q): %q, %t", p, name, words, ok)
					}
				}
			}
			if words, ok := header.Find(p, "c"); ok || words != nil {
				t.Fatalf("P8.2: Find(%+v, c): %q, %t", p, words, ok)
			}
		}
	}
}

// P8.3: policies written out by hand, right and not.
func TestPrint(t *testing.T) {
	for _, row := range []struct {
		p    api.Policy
		text string
	}{
		{pol(dir("a")), "a"},
		{pol(dir("a", "1")), "a 1"},
		{pol(dir("script-src", "'self'", "https:"), dir("x", "y")), "script-src 'self' https:; x y"},
		{pol(dir("b", "B", "B"), dir("a"), dir("c", "!~")), "b B B; a; c !~"},
		{pol(dir("-"), dir("0-9")), "-; 0-9"},
		{api.Policy{}, ""},
		{pol(), ""},
		{pol(dir("")), ""},
		{pol(dir("", "a")), ""},
		{pol(dir("A")), ""},
		{pol(dir("a"), dir("B")), ""},
		{pol(dir("a "), dir("b")), ""},
		{pol(dir("a b")), ""},
		{pol(dir("a;b")), ""},
		{pol(dir("a,b")), ""},
		{pol(dir("ä")), ""},
		{pol(dir("a_b")), ""},
		{pol(dir("a"), dir("a")), ""},
		{pol(dir("a", "1"), dir("b"), dir("a", "2")), ""},
		{pol(dir("a"), dir("b"), dir("")), ""},
		{pol(dir("a", "")), ""}, // what is no word would be parsed as something else
		{pol(dir("a", "1", "")), ""},
		{pol(dir("a", " ")), ""},
		{pol(dir("a", "1 2")), ""},
		{pol(dir("a", "1;2")), ""},
		{pol(dir("a", "1,2")), ""},
		{pol(dir("a", "1"), dir("b", "\t")), ""},
		{pol(dir("a", "\v")), ""},
		{pol(dir("a", "\x7f")), ""},
		{pol(dir("a", "ä")), ""},
		{pol(dir("a", "\x00")), ""},
	} {
		for _, report := range []bool{false, true} {
			row.p.Report = report // it has no place in the text
			if text, ok := header.Print(row.p); text != row.text || ok != (row.text != "") {
				t.Errorf("P8.3: Print(%+v): %q, %t, not %q", row.p, text, ok, row.text)
			}
			checkPrint(t, row.p)
		}
	}
}

// P8.3, P8.4: policies of up to three directives, with names and words of a few, right and not.
func TestPrintAgainstModel(t *testing.T) {
	list := []api.Directive{}
	for _, name := range []string{"a", "b", "c-1", "B", "", "a b", "*"} {
		for _, words := range [][]string{nil, {}, {"x"}, {"X", "x"}, {""}, {"a b"}, {"x", "a;b"}, {"a,b", "x"}} {
			list = append(list, dir(name, words...))
		}
	}
	for _, a := range list {
		checkPrint(t, pol(a))
		for _, b := range list {
			checkPrint(t, pol(a, b))
			for _, c := range list[:16] {
				checkPrint(t, pol(a, c, b))
			}
		}
	}
}

// R2: what is handed in stays as it is, and is not kept.
func TestHandedIn(t *testing.T) {
	for _, p := range []api.Policy{pol(dir("a", "1", "2"), dir("b", "3")), pol(dir("A", "1"), dir("a", "", "x y"), dir("a"))} {
		p.Directives = slices.Grow(p.Directives, 5)
		for at := range p.Directives {
			p.Directives[at].Words = slices.Grow(p.Directives[at].Words, 5)
		}
		spare := func() string {
			text := fmt.Sprintf("%q", p.Directives[:cap(p.Directives)])
			for _, d := range p.Directives {
				text += fmt.Sprintf("%q", d.Words[:cap(d.Words)])
			}
			return text
		}
		before, memory := copied(p), spare()
		text, ok := header.Print(p)
		words, _ := header.Find(p, "a")
		if !equal([]api.Policy{p}, []api.Policy{before}) || spare() != memory {
			t.Errorf("R2: %+v, which was %+v", p, before)
		}
		for at := range words {
			words[at] = "changed"
		}
		_ = append(words, "more")
		if !equal([]api.Policy{p}, []api.Policy{before}) || spare() != memory {
			t.Errorf("R2: words that Find told are shared with %+v", p)
		}
		if again, right := header.Print(p); again != text || right != ok {
			t.Errorf("R2: Print(%+v): %q, %t, and then %q, %t", p, text, ok, again, right)
		}
	}
}

// R2: lists that come out share no memory with each other.
func TestListsApart(t *testing.T) {
	const s = "a 1 2; b 3 4; c,d 5 6; e,f"
	first, second := header.Parse(s, false), header.Parse(s, false)
	for _, p := range first {
		for at := range p.Directives {
			words := p.Directives[at].Words
			_ = append(words, "x", "y", "z")
			for other := range words {
				words[other] = "w" + strconv.Itoa(at)
			}
		}
		_ = append(p.Directives, dir("x"), dir("y"), dir("z"))
	}
	_ = append(first, pol(dir("x")))
	want := []api.Policy{pol(dir("a", "w0", "w0"), dir("b", "w1", "w1"), dir("c")), pol(dir("d", "w0", "w0"), dir("e")), pol(dir("f"))}
	if !equal(first, want) {
		t.Errorf("R2: lists of one answer share memory: %+v", first)
	}
	if !equal(second, modelParse(s, false)) || !equal(header.Parse(s, false), second) {
		t.Errorf("R2: lists of two answers share memory: %+v", second)
	}
	one, _ := header.Find(second[0], "a")
	two, _ := header.Find(second[0], "a")
	clear(one)
	if _ = append(one[:0], "x", "y", "z"); !slices.Equal(two, []string{"1", "2"}) {
		t.Errorf("R2: words that were told twice share memory: %q", two)
	}
}

// R1, R4: long texts of any bytes; names, words and policies without number.
func TestLong(t *testing.T) {
	all := make([]byte, 256)
	for n := range all {
		all[n] = byte(n)
	}
	for _, s := range []string{
		strings.Repeat(string(all), 500),
		strings.Repeat(string(all)+", b ; c", 500),
		strings.Repeat(";", 300000), strings.Repeat(",", 300000), strings.Repeat(" a", 300000), strings.Repeat("a;", 300000),
		strings.Repeat("a", 300000), strings.Repeat("\xff", 300000),
	} {
		checkParse(t, s)
		checkPrint(t, pol(dir(s, s)))
		checkPrint(t, pol(dir("a", s)))
		if words, ok := header.Find(pol(dir("a", s)), s); ok || words != nil {
			t.Errorf("P8.2: Find of a long name: %t", ok)
		}
	}
	names := many("n", 300000)
	p := header.Parse(strings.Join(names, ";"), false)[0]
	if text, ok := header.Print(p); !ok || text != strings.Join(names, "; ") {
		t.Errorf("P8.4: %d directives, and %t", len(p.Directives), ok)
	}
}

// texts answers all texts of up to that many of the signs.
func texts(signs string, longest int) []string {
	all := []string{""}
	for from := 0; longest > 0; longest-- {
		last := all[from:]
		from = len(all)
		for _, text := range last {
			for at := range len(signs) {
				all = append(all, text+signs[at:at+1])
			}
		}
	}
	return all
}
