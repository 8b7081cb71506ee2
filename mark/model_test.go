package mark_test

import "math/big"

// The model: the chapter's words, reckoned with whole numbers and divided once, at the end, to hold the package against.

const prime = 1000000007

// modelNumber answers what is left of the text's number: its begin and its bytes, each times the factor as often as bytes are behind it.
func modelNumber(s string, begin, factor int64) int64 {
	sum := big.NewInt(begin)
	for at := range len(s) {
		sum.Mul(sum, big.NewInt(factor))
		sum.Add(sum, big.NewInt(int64(s[at])+1))
	}
	return left(sum)
}

func left(n *big.Int) int64 { return new(big.Int).Mod(n, big.NewInt(prime)).Int64() }

// modelMark answers the mark of a text of that many bytes with these two numbers.
func modelMark(x, y, count int64) string {
	product := new(big.Int).Mul(big.NewInt(x), big.NewInt(y))
	return four(x) + four(y) + four(left(product)) + four(left(big.NewInt(count)))
}

// four answers n as four bytes, by divisions.
func four(n int64) string {
	return string([]byte{byte(n / 16777216), byte(n / 65536 % 256), byte(n / 256 % 256), byte(n % 256)})
}

func modelOf(s string) string {
	return modelMark(modelNumber(s, 7, 257), modelNumber(s, 11, 65539), int64(len(s)))
}

// modelRow answers the mark of count bytes b, without going through them: factor^count, and the sum of the powers below it, are doubled and stepped.
func modelRow(b byte, count int64) string {
	number := func(begin, factor int64) int64 {
		power, sum := int64(1), int64(0)
		for bit := 62; bit >= 0; bit-- {
			power, sum = power*power%prime, (sum*power+sum)%prime
			if count>>bit&1 == 1 {
				power, sum = power*factor%prime, (sum*factor+1)%prime
			}
		}
		return (begin*power + (int64(b)+1)*sum) % prime
	}
	return modelMark(number(7, 257), number(11, 65539), count)
}

// edges are the bytes at which signs and forms begin and end.
const edges = "\x00 'Aa\x7f\x80\xc3\xfe\xff"

// eachOf calls yield with each text of that many of the signs.
func eachOf(signs string, count int, yield func(string)) {
	if count == 0 {
		yield("")
		return
	}
	eachOf(signs, count-1, func(text string) {
		for at := range len(signs) {
			yield(text + signs[at:at+1])
		}
	})
}

// eachInput calls yield with all texts of up to two bytes, and all of up to four of the edges.
func eachInput(yield func(string)) {
	yield("")
	for a := range 256 {
		yield(string([]byte{byte(a)}))
		for b := range 256 {
			yield(string([]byte{byte(a), byte(b)}))
		}
	}
	for count := 3; count <= 4; count++ {
		eachOf(edges, count, yield)
	}
}
