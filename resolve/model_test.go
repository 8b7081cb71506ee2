package resolve_test

import (
	"fmt"
	"regexp"
	"strings"

	"pounce/api"
	"pounce/url"
)

// The model: what texts begin with as patterns, and addresses put together of their parts, not of their texts, to hold the package against.

// modelKinds are the kinds' patterns, in their order, of a trimmed text.
var modelKinds = []*regexp.Regexp{
	regexp.MustCompile(`^[A-Za-z][A-Za-z0-9+.-]{0,19}:`),
	regexp.MustCompile(`^//`),
	regexp.MustCompile(`^/`),
	regexp.MustCompile(`^(#|$)`),
	regexp.MustCompile(`^[?]`),
	regexp.MustCompile(``),
}

// modelRef is a text's piece ahead of ?, its piece from there on, and what stands from # on; blanks that end up around are left aside.
var modelRef = regexp.MustCompile(`^(?s:[\t\n\f\r ]*([^?#]*?)([?][^#]*?)?[\t\n\f\r ]*(#.*)?)$`)

func modelTrim(s string) string { return strings.Trim(s, "\t\n\f\r ") }

func modelKind(ref string) int {
	for at, kind := range modelKinds {
		if kind.MatchString(modelTrim(ref)) {
			return at + 1
		}
	}
	return 0
}

func modelJoin(base api.URL, ref string) (api.URL, api.Errno) {
	kind := modelKind(ref)
	if kind == 1 {
		return url.Parse(ref)
	}
	if url.Check(base) != api.OK || base.Opaque {
		return api.URL{}, api.ErrUrlBase
	}
	parts := modelRef.FindStringSubmatch(ref)
	path, query := parts[1], parts[2]
	u := base
	switch kind {
	case 2:
		return url.Parse(fmt.Sprintf("%s:%s%s", base.Scheme, path, query))
	case 3:
		u.Path, u.Query = url.Clean(path), query
	case 5:
		u.Query = query
	case 6:
		pieces := strings.Split(base.Path, "/")
		pieces[len(pieces)-1] = path
		u.Path, u.Query = url.Clean(strings.Join(pieces, "/")), query
	}
	if e := url.Check(u); e != api.OK {
		return api.URL{}, e
	}
	return u, api.OK
}

// texts answers all texts of up to that many of the signs.
func texts(signs string, longest int) []string {
	all := []string{""}
	last := all
	for range longest {
		next := []string{}
		for at := range len(last) * len(signs) {
			sign := at % len(signs)
			next = append(next, last[at/len(signs)]+signs[sign:sign+1])
		}
		all, last = append(all, next...), next
	}
	return all
}
