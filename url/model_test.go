package url_test

import (
	"fmt"
	"regexp"
	"slices"
	"strings"

	"pounce/api"
)

// The model: the chapter's words as patterns, and paths gone through from their end, to hold the package against.

var (
	modelScheme = regexp.MustCompile(`^[a-z][a-z0-9+.-]{0,19}$`)
	modelHost   = regexp.MustCompile(`^[a-z0-9-]+([.][a-z0-9-]+)*$`)
	modelBytes  = regexp.MustCompile(`^/[\x21-\x22\x24-\x3e\x40-\x7e]*$`)
	modelQuery  = regexp.MustCompile(`^([?][\x21-\x22\x24-\x7e]*)?$`)
	modelOpaque = regexp.MustCompile(`^([\x21-\x22\x24-\x7e]([\x20-\x22\x24-\x7e]*[\x21-\x22\x24-\x7e])?)?$`)

	modelParts  = regexp.MustCompile(`^(?s:([^:]*):(.*))$`)
	modelPlaces = regexp.MustCompile(`^(?s://([^/?:]*)(?::([0-9]{1,5}))?(/[^?]*)?([?].*)?)$`)
)

// modelPorts are the ranked schemes, and their own ports.
var modelPorts = map[string]int{"http": 80, "https": 443, "ws": 80, "wss": 443}

// modelClean goes from the last piece on: each .. takes away the next piece that no other one does.
func modelClean(path string) string {
	if path == "" || path[0] != '/' {
		return ""
	}
	pieces := strings.Split(path, "/")[1:]
	clean, away := "", 0
	for at, piece := range slices.Backward(pieces) {
		dots := piece == "." || piece == ".."
		if at == len(pieces)-1 && dots {
			clean = "/"
		}
		switch {
		case piece == "..":
			away++
		case piece == ".":
		case away > 0:
			away--
		default:
			clean = "/" + piece + clean
		}
	}
	return clean
}

func modelIsClean(path string) bool {
	for _, piece := range strings.Split(path, "/") {
		if piece == "." || piece == ".." {
			return false
		}
	}
	return modelBytes.MatchString(path)
}

func modelText(u api.URL) string {
	switch {
	case u.Opaque:
		return fmt.Sprintf("%s:%s", u.Scheme, u.Path)
	case u.Port == 0:
		return fmt.Sprintf("%s://%s%s%s", u.Scheme, u.Host, u.Path, u.Query)
	}
	return fmt.Sprintf("%s://%s:%d%s%s", u.Scheme, u.Host, u.Port, u.Path, u.Query)
}

func modelRight(u api.URL) bool {
	own, ranked := modelPorts[u.Scheme]
	if len(modelText(u)) > 500 {
		return false
	}
	if u.Opaque {
		return !ranked && modelScheme.MatchString(u.Scheme) && modelOpaque.MatchString(u.Path) &&
			u == api.URL{Opaque: true, Scheme: u.Scheme, Path: u.Path}
	}
	return ranked && modelHost.MatchString(u.Host) && len(u.Host) <= 100 &&
		u.Port >= 0 && u.Port <= 65535 && u.Port != own && modelIsClean(u.Path) && modelQuery.MatchString(u.Query)
}

func modelLower(s string) string {
	small := []byte(s)
	for at, c := range small {
		if c >= 65 && c <= 90 {
			small[at] = c + 32
		}
	}
	return string(small)
}

func modelTrim(s string) string { return strings.Trim(s, "\t\n\f\r ") }

func modelParse(s string) (api.URL, api.Errno) {
	ahead, _, _ := strings.Cut(modelTrim(s), "#")
	parts := modelParts.FindStringSubmatch(ahead)
	if parts == nil {
		return api.URL{}, api.ErrUrlForm
	}
	u := api.URL{Scheme: modelLower(parts[1])}
	if own, ranked := modelPorts[u.Scheme]; ranked {
		places := modelPlaces.FindStringSubmatch(parts[2])
		if places == nil {
			return api.URL{}, api.ErrUrlForm
		}
		u.Host, u.Path, u.Query = modelLower(places[1]), "/", places[4]
		fmt.Sscanf(places[2], "%d", &u.Port)
		if u.Port == own {
			u.Port = 0
		}
		if places[3] != "" {
			u.Path = modelClean(places[3])
		}
	} else {
		u.Opaque, u.Path = true, modelTrim(parts[2])
	}
	if !modelRight(u) {
		return api.URL{}, api.ErrUrlForm
	}
	return u, api.OK
}

// eachOf calls yield with each text of that many of the signs.
func eachOf(signs string, count int, yield func(string)) {
	if count == 0 {
		yield("")
		return
	}
	eachOf(signs, count-1, func(text string) {
		for at := range len(signs) {
			yield(text + signs[at:at+1])
		}
	})
}

// eachUpTo calls yield with each text of up to that many of the signs.
func eachUpTo(signs string, longest int, yield func(string)) {
	for count := range longest + 1 {
		eachOf(signs, count, yield)
	}
}

// eachRow calls yield with each text that has one piece out of each list, one behind the other.
func eachRow(lists [][]string, yield func(string)) {
	if len(lists) == 0 {
		yield("")
		return
	}
	for _, piece := range lists[0] {
		eachRow(lists[1:], func(behind string) { yield(piece + behind) })
	}
}
