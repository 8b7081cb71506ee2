package source_test

import (
	"encoding/base64"
	"fmt"
	"regexp"
	"strings"

	"pounce/api"
)

// The model: words as patterns; and a source is right, if what is written of it, right or not, is read as just that source. It is what the package is held against.

// modelKept are the kept words.
var modelKept = map[string]api.SourceKind{
	"'none'": 1, "'self'": 2, "'unsafe-inline'": 3, "'unsafe-eval'": 4, "'wasm-unsafe-eval'": 5, "'strict-dynamic'": 6, "'unsafe-hashes'": 7, "'report-sample'": 8,
}

var (
	modelNonce  = regexp.MustCompile(`^'[nN][oO][nN][cC][eE]-([A-Za-z0-9+/_-]+={0,2})'$`)
	modelMark   = regexp.MustCompile(`^'[mM][aA][rR][kK]-([A-Za-z0-9+/_-]{21}[AQgw])(?:==)?'$`) // the last of 22 signs has four bits too many
	modelScheme = regexp.MustCompile(`^([A-Za-z][A-Za-z0-9+.-]{0,19}):$`)
	modelPlace  = regexp.MustCompile(`^(?:([A-Za-z][A-Za-z0-9+.-]{0,19})://)?` + // 1: a scheme
		`(?:([*])|([*][.])?([A-Za-z0-9-]+(?:[.][A-Za-z0-9-]+)*))` + // 2: any host; 3: any host ahead of 4: a host
		`(?::(?:([*])|([0-9]{1,5})))?` + // 5: any port; 6: a port
		`(/[!"$-+\x2d-9<-\x3e@-~]*)?$`) // 7: a path
)

func modelSmall(s string) string {
	text := []byte(s)
	for at := range text {
		if text[at] >= 65 && text[at] <= 90 {
			text[at] += 32
		}
	}
	return string(text)
}

func modelParse(w string) (api.Source, bool) {
	if kind := modelKept[modelSmall(w)]; kind > 0 {
		return api.Source{Kind: kind}, true
	}
	if parts := modelNonce.FindStringSubmatch(w); parts != nil && len(parts[1]) <= 200 {
		return api.Source{Kind: api.SourceNonce, Text: parts[1]}, true
	}
	if parts := modelMark.FindStringSubmatch(w); parts != nil {
		text, err := base64.RawStdEncoding.DecodeString(strings.NewReplacer("-", "+", "_", "/").Replace(parts[1]))
		return api.Source{Kind: api.SourceHash, Text: string(text)}, err == nil
	}
	if parts := modelScheme.FindStringSubmatch(w); parts != nil {
		return api.Source{Kind: api.SourceScheme, Scheme: modelSmall(parts[1])}, true
	}
	return modelParsePlace(w)
}

func modelParsePlace(w string) (api.Source, bool) {
	parts := modelPlace.FindStringSubmatch(w)
	if parts == nil || len(parts[4]) > 100 || len(parts[7]) > 200 {
		return api.Source{}, false
	}
	s := api.Source{Kind: api.SourceHost, Scheme: modelSmall(parts[1]), Host: modelSmall(parts[4]), Wild: parts[2]+parts[3] != "", Path: parts[7]}
	if parts[5] != "" {
		s.Port = -1
	}
	if parts[6] != "" {
		fmt.Sscanf(parts[6], "%d", &s.Port)
		if s.Port < 1 || s.Port > 65535 {
			return api.Source{}, false
		}
	}
	return s, true
}

// modelWord writes a source, right or not.
func modelWord(s api.Source) string {
	switch s.Kind {
	case api.SourceNonce:
		return fmt.Sprintf("'nonce-%s'", s.Text)
	case api.SourceHash:
		return fmt.Sprintf("'mark-%s'", base64.StdEncoding.EncodeToString([]byte(s.Text)))
	case api.SourceScheme:
		return s.Scheme + ":"
	case api.SourceHost:
		return modelPlaceWord(s)
	}
	for word, kind := range modelKept {
		if kind == s.Kind {
			return word
		}
	}
	return ""
}

func modelPlaceWord(s api.Source) string {
	places := []string{}
	if s.Wild {
		places = append(places, "*")
	}
	if s.Host != "" {
		places = append(places, s.Host)
	}
	word := strings.Join(places, ".")
	if s.Scheme != "" {
		word = fmt.Sprintf("%s://%s", s.Scheme, word)
	}
	if s.Port > 0 {
		word = fmt.Sprintf("%s:%d", word, s.Port)
	}
	if s.Port == -1 {
		word += ":*"
	}
	return word + s.Path
}

func modelPrint(s api.Source) (string, bool) {
	word := modelWord(s)
	if again, ok := modelParse(word); !ok || again != s {
		return "", false
	}
	return word, true
}

// eachOf calls yield with each text of that many of the signs.
func eachOf(signs string, count int, yield func(string)) {
	if count == 0 {
		yield("")
		return
	}
	eachOf(signs, count-1, func(text string) {
		for at := range len(signs) {
			yield(text + signs[at:at+1])
		}
	})
}

// eachUpTo calls yield with each text of up to that many of the signs.
func eachUpTo(signs string, longest int, yield func(string)) {
	for count := range longest + 1 {
		eachOf(signs, count, yield)
	}
}

// eachRow calls yield with each text that has one piece out of each list, one behind the other.
func eachRow(lists [][]string, yield func(string)) {
	if len(lists) == 0 {
		yield("")
		return
	}
	for _, piece := range lists[0] {
		eachRow(lists[1:], func(behind string) { yield(piece + behind) })
	}
}
