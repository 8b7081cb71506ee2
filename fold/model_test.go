package fold_test

// The model: the chapter's words, byte by byte, without the library, to hold the package against.

func modelBlank(c byte) bool {
	return c == 9 || c == 10 || c == 12 || c == 13 || c == 32
}

func modelLower(s string) string {
	text := []byte{}
	for at := range len(s) {
		c := s[at]
		if c >= 65 && c <= 90 {
			c += 32
		}
		text = append(text, c)
	}
	return string(text)
}

func modelTrim(s string) string {
	for s != "" && modelBlank(s[0]) {
		s = s[1:]
	}
	for s != "" && modelBlank(s[len(s)-1]) {
		s = s[:len(s)-1]
	}
	return s
}

// modelCut answers what stands between the bytes that are told to part s, the empty texts too.
func modelCut(s string, parts func(c byte) bool) []string {
	texts, from := []string{}, 0
	for at := range len(s) {
		if parts(s[at]) {
			texts, from = append(texts, s[from:at]), at+1
		}
	}
	return append(texts, s[from:])
}

func modelWords(s string) []string {
	words := []string{}
	for _, word := range modelCut(s, modelBlank) {
		if word != "" {
			words = append(words, word)
		}
	}
	return words
}

func modelParts(s string, sep byte) []string {
	parts := modelCut(s, func(c byte) bool { return c == sep })
	for at, part := range parts {
		parts[at] = modelTrim(part)
	}
	return parts
}

// edges are the bytes beside and at which blanks and great letters begin and end, and bytes of code points of several, whole and cut off.
const edges = "\t\n\v\f\r \x00a@AZ[z;\x7f\x80\x85\xa0\xa4\xc2\xc3\xff"

// eachOf calls yield with each text of that many of the signs.
func eachOf(signs string, count int, yield func(string)) {
	if count == 0 {
		yield("")
		return
	}
	eachOf(signs, count-1, func(text string) {
		for at := range len(signs) {
			yield(text + signs[at:at+1])
		}
	})
}

// eachInput calls yield with all texts of up to two bytes, and all of up to four of the edges.
func eachInput(yield func(string)) {
	yield("")
	for a := range 256 {
		yield(string([]byte{byte(a)}))
		for b := range 256 {
			yield(string([]byte{byte(a), byte(b)}))
		}
	}
	for count := 3; count <= 4; count++ {
		eachOf(edges, count, yield)
	}
}
