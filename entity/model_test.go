package entity_test

import (
	"regexp"
	"strings"

	"pounce/api"
)

// The model: a sign's text is one pattern, by which a text is cut in one go; what is cut out is looked up in a map, or reckoned digit by digit. It is what the package is held against.

// odd is the code point 65533.
const odd = "\xef\xbf\xbd"

var modelSigns = map[string]string{
	"amp": "\x26", "lt": "\x3c", "gt": "\x3e", "quot": "\x22", "apos": "\x27",
	"nbsp": "\xc2\xa0", "colon": "\x3a", "lpar": "\x28", "rpar": "\x29", "tab": "\x09",
}

var modelPattern = regexp.MustCompile(`&(?:(amp|lt|gt|quot|apos|nbsp|colon|lpar|rpar|tab)|#([0-9]{1,7})|#[xX]([0-9a-fA-F]{1,6}));`)

// modelNumber reckons what digits of that base tell.
func modelNumber(digits string, base int) int {
	n := 0
	for _, c := range []byte(strings.ToLower(digits)) {
		n = n*base + strings.IndexByte("0123456789abcdef", c)
	}
	return n
}

// modelPoint answers the bytes of a code point, and false, if n is none, or 0.
func modelPoint(n int) (string, bool) {
	switch {
	case n <= 0 || n > 1114111 || n >= 55296 && n <= 57343:
		return odd, false
	case n <= 127:
		return string([]byte{byte(n)}), true
	case n <= 2047:
		return string([]byte{byte(192 + n/64), byte(128 + n%64)}), true
	case n <= 65535:
		return string([]byte{byte(224 + n/4096), byte(128 + n/64%64), byte(128 + n%64)}), true
	}
	return string([]byte{byte(240 + n/262144), byte(128 + n/4096%64), byte(128 + n/64%64), byte(128 + n%64)}), true
}

func modelDecode(s string) (string, []api.Fail) {
	told, from := "", 0
	fails := []api.Fail{}
	for _, place := range modelPattern.FindAllStringSubmatchIndex(s, -1) {
		told += s[from:place[0]]
		from = place[1]
		if place[2] >= 0 {
			told += modelSigns[s[place[2]:place[3]]]
			continue
		}
		n := 0
		if place[4] >= 0 {
			n = modelNumber(s[place[4]:place[5]], 10)
		} else {
			n = modelNumber(s[place[6]:place[7]], 16)
		}
		text, ok := modelPoint(n)
		told += text
		if !ok {
			fails = append(fails, api.Fail{Code: 130, At: place[0]})
		}
	}
	return told + s[from:], fails
}

// modelEncode puts the names in one after the other; the first one must be that of the sign that all begin with.
func modelEncode(s string) string {
	for _, name := range []string{"amp", "lt", "gt", "quot", "apos"} {
		s = strings.Join(strings.Split(s, modelSigns[name]), "&"+name+";")
	}
	return s
}

// eachRow calls yield with each text that is made of that many of the pieces.
func eachRow(pieces []string, count int, yield func(string)) {
	if count == 0 {
		yield("")
		return
	}
	eachRow(pieces, count-1, func(ahead string) {
		for _, piece := range pieces {
			yield(ahead + piece)
		}
	})
}
