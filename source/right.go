package source

import (
	"strings"

	"pounce/api"
	"pounce/base"
	"pounce/url"
)

// How many bytes there may be, or must.
const (
	maxNonce = 200
	maxPath  = 200
	markSize = 16
)

const maxPort = 65535

// Paths have these bytes, and those between, but none of notInPath.
const (
	firstByte = '!'
	lastByte  = '~'
	notInPath = "?#,;:"
)

// isRight holds a source against one that has nothing but what its kind names.
func isRight(s api.Source) bool {
	switch s.Kind {
	case api.SourceNonce:
		return isNonce(s.Text) && s == api.Source{Kind: s.Kind, Text: s.Text}
	case api.SourceHash:
		return len(s.Text) == markSize && s == api.Source{Kind: s.Kind, Text: s.Text}
	case api.SourceScheme:
		return isScheme(s.Scheme) && s == api.Source{Kind: s.Kind, Scheme: s.Scheme}
	case api.SourceHost:
		return s.Text == "" && isPlace(s)
	}
	return keptText(s.Kind) != "" && s == api.Source{Kind: s.Kind}
}

func isNonce(s string) bool { return len(s) <= maxNonce && base.Form(s) }

func isPlace(s api.Source) bool {
	return (s.Scheme == "" || isScheme(s.Scheme)) &&
		(s.Host == "" && s.Wild || isHost(s.Host)) &&
		anyPort <= s.Port && s.Port <= maxPort && isPath(s.Path)
}

// isScheme asks for ranked schemes apart: no opaque address that is right has one.
func isScheme(s string) bool {
	return url.Default(s) != 0 || url.Check(api.URL{Opaque: true, Scheme: s}) == api.OK
}

// isHost asks of an address that nothing but its host can make wrong.
func isHost(s string) bool {
	return url.Check(api.URL{Scheme: "http", Host: s, Path: slash}) == api.OK
}

// isPath does not ask for a clean path: it is held against those of addresses as it is told.
func isPath(s string) bool {
	if s == "" {
		return true
	}
	if len(s) > maxPath || strings.ContainsAny(s, notInPath) {
		return false
	}
	for at := range len(s) {
		if s[at] < firstByte || s[at] > lastByte {
			return false
		}
	}
	return strings.HasPrefix(s, slash)
}
