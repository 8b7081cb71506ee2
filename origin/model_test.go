package origin_test

import (
	"fmt"
	"regexp"
	"strings"

	"pounce/api"
	"pounce/url"
)

// The model: origins as what an address' text begins with, not as its parts, to hold the package against.

// modelPlace is a text's scheme, its host, and the port that it tells.
var modelPlace = regexp.MustCompile(`^(https?|wss?)://([^/:]+)(?::([0-9]+))?/`)

var modelSafe = regexp.MustCompile(`^(https|wss)://`)

// modelPorts are the schemes' own ports.
var modelPorts = map[string]int{"http": 80, "https": 443, "ws": 80, "wss": 443}

func modelOf(u api.URL) api.Origin {
	text, _ := url.Print(u)
	parts := modelPlace.FindStringSubmatch(text)
	if parts == nil {
		return api.Origin{Opaque: true}
	}
	port := modelPorts[parts[1]]
	if parts[3] != "" {
		fmt.Sscanf(parts[3], "%d", &port)
	}
	return api.Origin{Scheme: parts[1], Host: parts[2], Port: port}
}

func modelSecure(u api.URL) bool {
	text, _ := url.Print(u)
	return modelSafe.MatchString(text)
}

// modelSame goes field by field.
func modelSame(a, b api.Origin) bool {
	switch {
	case a.Opaque, b.Opaque:
		return false
	case a.Scheme != b.Scheme, a.Host != b.Host:
		return false
	}
	return a.Port-b.Port == 0
}

// modelText writes each port, and takes the schemes' own ones away.
func modelText(o api.Origin) string {
	if o.Opaque {
		return "null"
	}
	own := fmt.Sprintf(":%d", modelPorts[o.Scheme])
	port := fmt.Sprintf(":%d", o.Port)
	if port == own {
		port = ""
	}
	return strings.Join([]string{o.Scheme, "://", o.Host, port}, "")
}
