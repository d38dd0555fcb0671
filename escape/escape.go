// Package escape writes values so that they say nothing in the place of a page
// that they come into.
package escape

import (
	"strings"
	"unicode/utf8"

	"stencil/api"
	"stencil/ascii"
)

// blocked is written for a link whose scheme is not an open one.
const blocked = "#blocked"

const (
	upperHex = "0123456789ABCDEF"
	lowerHex = "0123456789abcdef"
)

// openSchemes are the schemes by which a link may begin.
var openSchemes = [...]string{"http", "https", "mailto"}

// swap: a character that is written by a text of its own.
type swap struct {
	as       int
	from, to string
}

var swaps = [...]swap{
	{api.AsText, "&", "&amp;"},
	{api.AsText, "<", "&lt;"},
	{api.AsText, ">", "&gt;"},
	{api.AsText, `"`, "&quot;"},
	{api.AsText, "'", "&#39;"},
	{api.AsJs, "\u2028", `\u2028`},
	{api.AsJs, "\u2029", `\u2029`},
}

// escaper: which bytes are written by their numbers, and how.
type escaper struct {
	controls bool   // those below 32, and 127, are
	coded    string // these are
	kept     string // if there are any: all but these, letters and digits are
	ahead    string
	digits   string // the sixteen that a number is written with
	short    bool   // a digit that a number does not need is left out
	behind   string
}

var escapers = [...]escaper{
	api.AsText: {}, // swaps do for it
	api.AsLink: {kept: "-._~/?#[]@!$()*+,;=", ahead: "%", digits: upperHex},
	api.AsJs:   {controls: true, coded: "\"'&/<>\\`", ahead: `\x`, digits: lowerHex},
	api.AsCss:  {controls: true, coded: "\"'&/<>\\", ahead: `\`, digits: lowerHex, short: true, behind: " "},
}

// Clean is the value, in which each byte that is not of a character, and each
// byte 0, is U+FFFD.
func Clean(value string) string {
	var out strings.Builder
	out.Grow(len(value))
	for _, char := range value {
		if char == 0 {
			char = utf8.RuneError
		}
		out.WriteRune(char)
	}
	return out.String()
}

// Value is the cleaned value, written as its place asks.
func Value(as int, value string) (string, api.Errno) {
	switch as {
	case api.AsFirst:
		return first(Clean(value)), api.OK
	case api.AsText, api.AsLink, api.AsJs, api.AsCss:
		return write(as, Clean(value)), api.OK
	}
	return "", api.ErrArg
}

// first writes the beginning of a link, where a scheme would be heeded.
func first(clean string) string {
	colon := schemeEnd(clean)
	if colon < 0 {
		return write(api.AsLink, clean)
	}
	if !isOpen(clean[:colon]) {
		return blocked
	}
	return clean[:colon+1] + write(api.AsLink, clean[colon+1:])
}

// schemeEnd is where the colon of a scheme is that the link begins with, or -1.
func schemeEnd(link string) int {
	for at := range len(link) {
		b := link[at]
		if ascii.Letter(b) {
			continue
		}
		if at > 0 && b == ':' {
			return at
		}
		if at == 0 || !ascii.Digit(b) && strings.IndexByte("+-.", b) < 0 {
			return -1
		}
	}
	return -1
}

func isOpen(scheme string) bool {
	small := ascii.Small(scheme)
	for _, open := range openSchemes {
		if small == open {
			return true
		}
	}
	return false
}

// write writes what is clean in one way that does not ask how it begins.
func write(as int, clean string) string {
	var out strings.Builder
	out.Grow(len(clean))
	for at := 0; at < len(clean); {
		from, to := swapFor(as, clean[at:])
		if from != "" {
			out.WriteString(to)
			at += len(from)
			continue
		}
		if isCoded(as, clean[at]) {
			writeCode(&out, as, clean[at])
		} else {
			out.WriteByte(clean[at])
		}
		at++
	}
	return out.String()
}

// swapFor is the swap of the character that the text begins with, if it has one.
func swapFor(as int, text string) (from, to string) {
	for _, one := range swaps {
		if one.as == as && strings.HasPrefix(text, one.from) {
			return one.from, one.to
		}
	}
	return "", ""
}

func isCoded(as int, b byte) bool {
	if kept := escapers[as].kept; kept != "" {
		return !ascii.Letter(b) && !ascii.Digit(b) && strings.IndexByte(kept, b) < 0
	}
	if b < 32 || b == 127 {
		return escapers[as].controls
	}
	return strings.IndexByte(escapers[as].coded, b) >= 0
}

func writeCode(out *strings.Builder, as int, b byte) {
	digits := escapers[as].digits
	out.WriteString(escapers[as].ahead)
	if b >= 16 || !escapers[as].short {
		out.WriteByte(digits[b>>4])
	}
	out.WriteByte(digits[b&15])
	out.WriteString(escapers[as].behind)
}
