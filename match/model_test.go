package match_test

import (
	"fmt"
	"regexp"
	"slices"
	"strings"

	"pounce/api"
	"pounce/url"
)

// The model: a source is a pattern of addresses' texts, put together of its parts; it is held against whole texts, not against an address' parts. It is what the package is held against.

// modelUp are the schemes that are let be, beside itself, by the one that is told.
var modelUp = map[string][]string{"http": {"http", "https"}, "ws": {"ws", "wss"}}

// modelPorts are the schemes' own ports.
var modelPorts = map[string]int{"http": 80, "https": 443, "ws": 80, "wss": 443}

func modelSchemes(told string) []string {
	if list := modelUp[told]; list != nil {
		return list
	}
	return []string{told}
}

func modelScheme(told, is string) bool { return slices.Contains(modelSchemes(told), is) }

// modelSmall makes the letters of an alphabet of 26 small, and no others.
func modelSmall(s string) string {
	text := []byte(s)
	for at := range text {
		if text[at] >= 65 && text[at] <= 90 {
			text[at] += 32
		}
	}
	return string(text)
}

// modelHostPattern takes each byte of its own, as a host that is asked for may be no text.
func modelHostPattern(s api.Source) string {
	told := ""
	for _, c := range []byte(modelSmall(s.Host)) {
		told += fmt.Sprintf("%02x", c)
	}
	switch {
	case !s.Wild:
		return told
	case told == "":
		return "(?:..)*"
	}
	return "(?:..)+2e" + told
}

func modelHost(s api.Source, host string) bool {
	return regexp.MustCompile("^(?:" + modelHostPattern(s) + ")$").MatchString(fmt.Sprintf("%x", modelSmall(host)))
}

// modelPortList answers the ports of addresses of a scheme that s lets be; none, if that is each.
func modelPortList(s api.Source, scheme string) []int {
	switch s.Port {
	case -1:
		return nil
	case 0:
		return []int{modelPorts[scheme]}
	case 80:
		return []int{80, 443}
	}
	return []int{s.Port}
}

func modelPort(s api.Source, u api.URL) bool {
	is := u.Port
	if is == 0 {
		is = modelPorts[u.Scheme]
	}
	list := modelPortList(s, u.Scheme)
	return list == nil || slices.Contains(list, is)
}

// modelPath goes byte by byte.
func modelPath(told, is string, moved bool) bool {
	if len(told) == 0 || moved {
		return true
	}
	if len(is) < len(told) {
		return false
	}
	for at := range len(told) {
		if told[at] != is[at] {
			return false
		}
	}
	return len(is) == len(told) || told[len(told)-1] == 47
}

// modelNever is the pattern of no text.
const modelNever = `[^\s\S]`

// modelPattern must be given a source that is right, and a self whose scheme is.
func modelPattern(s api.Source, self api.URL, moved bool) *regexp.Regexp {
	pattern := modelNever
	switch s.Kind {
	case api.SourceScheme:
		pattern = modelAny(modelSchemes(s.Scheme)) + ":.*"
	case api.SourceHost:
		pattern = modelPlaces(s, self, moved)
	case api.SourceSelf:
		pattern = modelSelf(self)
	}
	return regexp.MustCompile("^(?:" + pattern + ")$")
}

// modelLets answers the texts of those addresses that are let be, a line each.
func modelLets(s api.Source, list []api.URL, self api.URL, moved bool) string {
	pattern, lines := modelPattern(s, self, moved), ""
	for _, u := range list {
		if text, e := url.Print(u); e == api.OK && pattern.MatchString(text) {
			lines += text + "\n"
		}
	}
	return lines
}

func modelUrl(s api.Source, u, self api.URL, moved bool) bool {
	return modelLets(s, []api.URL{u}, self, moved) != ""
}

func modelAny(list []string) string {
	quoted := []string{}
	for _, text := range list {
		quoted = append(quoted, regexp.QuoteMeta(text))
	}
	return "(?:" + strings.Join(quoted, "|") + ")"
}

// modelPlaces answers the pattern of the texts that a SourceHost lets be, scheme by scheme, as each tells ports its own way.
func modelPlaces(s api.Source, self api.URL, moved bool) string {
	told := s.Scheme
	if told == "" {
		told = self.Scheme
	}
	host := regexp.QuoteMeta(modelSmall(s.Host))
	switch {
	case s.Wild && host == "":
		host = "[^/:]+"
	case s.Wild:
		host = "[^/:]+[.]" + host
	}
	path := regexp.QuoteMeta(s.Path) + "(?:[?].*)?"
	if s.Path == "" || moved || s.Path[len(s.Path)-1] == 47 {
		path = regexp.QuoteMeta(s.Path) + ".*"
	}
	if s.Path == "" || moved {
		path = "/.*"
	}
	patterns := []string{modelNever}
	for _, scheme := range modelSchemes(told) {
		if modelPorts[scheme] != 0 {
			patterns = append(patterns, scheme+"://"+host+modelPortTexts(s, scheme)+path)
		}
	}
	return strings.Join(patterns, "|")
}

// modelPortTexts: an address' text tells no port that is its scheme's own.
func modelPortTexts(s api.Source, scheme string) string {
	list := modelPortList(s, scheme)
	if list == nil {
		return "(?::[0-9]+)?"
	}
	texts := []string{}
	for _, port := range list {
		text := fmt.Sprintf(":%d", port)
		if port == modelPorts[scheme] {
			text = ""
		}
		texts = append(texts, text)
	}
	return modelAny(texts)
}

// modelSelf goes by the begin of self's text.
func modelSelf(self api.URL) string {
	text, _ := url.Print(self)
	begin := regexp.MustCompile("^(https?|wss?)://[^/]+").FindStringSubmatch(text)
	if begin == nil {
		return modelNever
	}
	list := []string{begin[0]}
	if !strings.Contains(begin[0][len(begin[1])+1:], ":") {
		list = nil
		for _, scheme := range modelSchemes(begin[1]) {
			list = append(list, scheme+begin[0][len(begin[1]):])
		}
	}
	return modelAny(list) + "/.*"
}
