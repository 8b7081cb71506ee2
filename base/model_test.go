package base_test

import "strings"

// The model: the chapter's words, with bits as texts of 0 and 1, to hold the package against.

// modelSign answers the sign for n.
func modelSign(n int) byte {
	switch {
	case n < 26:
		return byte(65 + n)
	case n < 52:
		return byte(97 + n - 26)
	case n < 62:
		return byte(48 + n - 52)
	case n == 62:
		return 43
	}
	return 47
}

// modelNumber answers what c is the sign for, in what is read; -1, if it is no sign.
func modelNumber(c byte) int {
	switch c {
	case 45:
		return 62
	case 95:
		return 63
	}
	for n := range 64 {
		if modelSign(n) == c {
			return n
		}
	}
	return -1
}

// modelBits answers that many bits of n, the greatest first.
func modelBits(n, count int) string {
	bits := ""
	for range count {
		bits = string([]byte{byte(48 + n%2)}) + bits
		n /= 2
	}
	return bits
}

// modelWhole answers the number whose bits these are.
func modelWhole(bits string) int {
	n := 0
	for at := range len(bits) {
		n = n*2 + int(bits[at]) - 48
	}
	return n
}

func modelEncode(s string) string {
	var bits strings.Builder
	for at := range len(s) {
		bits.WriteString(modelBits(int(s[at]), 8))
	}
	for bits.Len()%6 != 0 {
		bits.WriteByte('0')
	}
	text := []byte{}
	for rest := bits.String(); rest != ""; rest = rest[6:] {
		text = append(text, modelSign(modelWhole(rest[:6])))
	}
	for len(text)%4 != 0 {
		text = append(text, '=')
	}
	return string(text)
}

// modelCounts answers how many signs s begins with, how many = are behind them, and whether that is all of it.
func modelCounts(s string) (int, int, bool) {
	signCount, fillCount := 0, 0
	for signCount < len(s) && modelNumber(s[signCount]) >= 0 {
		signCount++
	}
	for signCount+fillCount < len(s) && s[signCount+fillCount] == '=' {
		fillCount++
	}
	return signCount, fillCount, signCount+fillCount == len(s)
}

func modelForm(s string) bool {
	signCount, fillCount, all := modelCounts(s)
	return all && signCount >= 1 && fillCount <= 2
}

func modelDecode(s string) (string, bool) {
	if s == "" {
		return "", true
	}
	signCount, fillCount, _ := modelCounts(s)
	if !modelForm(s) || fillCount > 0 && len(s)%4 != 0 {
		return "", false
	}
	var bits strings.Builder
	for at := range signCount {
		bits.WriteString(modelBits(modelNumber(s[at]), 6))
	}
	rest, text := bits.String(), []byte{}
	for ; len(rest) >= 8; rest = rest[8:] {
		text = append(text, byte(modelWhole(rest[:8])))
	}
	if len(rest) >= 6 || modelWhole(rest) != 0 {
		return "", false
	}
	return string(text), true
}

// modelWritten answers a text that is decoded with its signs as they are written, and the = that belong there.
func modelWritten(s string) string {
	signCount, _, _ := modelCounts(s)
	text := []byte{}
	for at := range signCount {
		text = append(text, modelSign(modelNumber(s[at])))
	}
	for len(text)%4 != 0 {
		text = append(text, '=')
	}
	return string(text)
}

// edges are bytes whose bits are all alike, or alike but for one, and some of texts.
const edges = "\x00\x01\x02\x04\x10aM\x7f\x80\xc3\xfe\xff"

// readEdges are signs whose last bits are all 0, or not (A Q E g, B 9), those that are written in two ways, =, and bytes that are no signs.
const readEdges = "AQEgB9+-/_= \xc3"

// eachOf calls yield with each text of that many of the signs.
func eachOf(signs string, count int, yield func(string)) {
	if count == 0 {
		yield("")
		return
	}
	eachOf(signs, count-1, func(text string) {
		for at := range len(signs) {
			yield(text + signs[at:at+1])
		}
	})
}

// eachInput calls yield with all texts of up to two bytes, and all of 3 to longest of the edges.
func eachInput(edges string, longest int, yield func(string)) {
	yield("")
	for a := range 256 {
		yield(string([]byte{byte(a)}))
		for b := range 256 {
			yield(string([]byte{byte(a), byte(b)}))
		}
	}
	for count := 3; count <= longest; count++ {
		eachOf(edges, count, yield)
	}
}
