package utf_test

// The model: the chapter's words, reckoned by divisions alone, to hold the package against.

const odd = "\xef\xbf\xbd"

func modelIsPoint(n int) bool {
	return n >= 0 && n <= 1114111 && !(n >= 55296 && n <= 57343)
}

// modelBytes reckons the bytes of a code point.
func modelBytes(n int) string {
	switch {
	case n <= 127:
		return string([]byte{byte(n)})
	case n <= 2047:
		return string([]byte{byte(192 + n/64), byte(128 + n%64)})
	case n <= 65535:
		return string([]byte{byte(224 + n/4096), byte(128 + n/64%64), byte(128 + n%64)})
	}
	return string([]byte{byte(240 + n/262144), byte(128 + n/4096%64), byte(128 + n/64%64), byte(128 + n%64)})
}

// modelFirst answers the code point whose bytes s begins with, and how many these are; 0 bytes, if there is none.
func modelFirst(s string) (int, int) {
	for size := 1; size <= 4 && size <= len(s); size++ {
		n := int(s[0]) - [5]int{0, 0, 192, 224, 240}[size]
		for _, b := range []byte(s[1:size]) {
			n = n*64 + int(b) - 128
		}
		if modelIsPoint(n) && modelBytes(n) == s[:size] {
			return n, size
		}
	}
	return 65533, 0
}

// modelDecode answers what s is decoded as, and the code points of that.
func modelDecode(s string) (string, []int) {
	text, points := "", []int{}
	for s != "" {
		n, size := modelFirst(s)
		text, points = text+modelBytes(n), append(points, n)
		s = s[max(size, 1):]
	}
	return text, points
}

// edges are the bytes at which the chapter's forms begin and end.
const edges = "\x00a\x7f\x80\x8f\x90\x9f\xa0\xbf\xc0\xc1\xc2\xdf\xe0\xe1\xec\xed\xee\xef\xf0\xf1\xf3\xf4\xf5\xf7\xf8\xff"

// eachOf calls yield with each text of that many of the signs.
func eachOf(signs string, count int, yield func(string)) {
	text := make([]byte, count)
	var fill func(at int)
	fill = func(at int) {
		if at == count {
			yield(string(text))
			return
		}
		for _, b := range []byte(signs) {
			text[at] = b
			fill(at + 1)
		}
	}
	fill(0)
}

// eachPoint calls yield with each code point.
func eachPoint(yield func(int)) {
	for n := range 1114112 {
		if modelIsPoint(n) {
			yield(n)
		}
	}
}
