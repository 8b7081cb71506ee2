package url

import (
	"strings"

	"pounce/api"
	"pounce/fold"
)

// rest is what is left of a text behind what was cut off.
type rest struct{ left string }

// cut takes off what stands ahead of the first of these signs; all, if none of them is there.
func (r *rest) cut(signs string) string {
	at := strings.IndexAny(r.left, signs)
	if at < 0 {
		at = len(r.left)
	}
	part := r.left[:at]
	r.left = r.left[at:]
	return part
}

// skip takes sign off, and answers whether it was next.
func (r *rest) skip(sign string) bool {
	left, next := strings.CutPrefix(r.left, sign)
	r.left = left
	return next
}

// address is the parts that were cut off a text, and the rest of it.
type address struct {
	rest
	api.URL
}

func (a *address) cutScheme() bool {
	a.Scheme = fold.Lower(a.cut(":"))
	return a.skip(":")
}

func (a *address) cutOpaque() {
	a.Opaque = true
	a.Path = fold.Trim(a.left)
}

// cutHost cuts off the host, and the port, if there is one.
func (a *address) cutHost() bool {
	place := rest{left: a.cut("/?")}
	a.Host = fold.Lower(place.cut(":"))
	if !place.skip(":") {
		return true
	}
	port, ok := number(place.left)
	if port != Default(a.Scheme) {
		a.Port = port
	}
	return ok
}

// cutPath cuts off the path, and leaves the query.
func (a *address) cutPath() {
	path := a.cut("?")
	if path == "" {
		path = "/"
	}
	a.Path = Clean(path)
	a.Query = a.left
}

// number answers what a port's digits tell, and whether there are one to maxDigits of them, and nothing else.
func number(digits string) (int, bool) {
	if digits == "" || len(digits) > maxDigits {
		return 0, false
	}
	n := 0
	for at := range len(digits) {
		if !isDigit(digits[at]) {
			return 0, false
		}
		n = n*10 + int(digits[at]-'0')
	}
	return n, true
}
