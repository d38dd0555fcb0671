package tags

import (
	"strings"

	"stencil/api"
	"stencil/ascii"
)

// The kinds of tags that are no parts.
const (
	comment = Partial + 1 + iota
	delims
)

const (
	blanksOfLine = "\t\f\r " // those that do not end a line
	maxDelim     = 3         // bytes of what tags begin or end with
)

// tag: what a tag's content says.
type tag struct {
	kind             int
	slip             int // what is wrong with it, or 0
	name             string
	opening, closing string // of delims
}

// read reads the content of a tag.
func read(content string) tag {
	kind := kindOf(content)
	switch kind {
	case comment:
		return tag{kind: comment}
	case delims:
		return readDelims(content)
	case Hole:
		return named(Hole, content)
	}
	return named(kind, strings.TrimLeft(content[1:], ascii.Blanks))
}

// kindOf tells by its first byte what a content is.
func kindOf(content string) int {
	if content == "" {
		return Hole
	}
	switch content[0] {
	case '!':
		return comment
	case '=':
		return delims
	case '#':
		return Section
	case '^':
		return Turned
	case '/':
		return End
	case '>':
		return Partial
	}
	return Hole
}

// named is a tag that has a name, or else the slip.
func named(kind int, name string) tag {
	if kind == Partial && !IsIdentifier(name) || kind != Partial && !isName(name) {
		return tag{kind: kind, slip: api.BadName}
	}
	return tag{kind: kind, name: name}
}

// readDelims reads by what tags are opened and closed from here on.
func readDelims(content string) tag {
	inner, ended := strings.CutSuffix(content[1:], "=")
	words := strings.FieldsFunc(inner, isBlank)
	if !ended || len(words) != 2 || !isDelim(words[0]) || !isDelim(words[1]) {
		return tag{kind: delims, slip: api.BadDelims}
	}
	return tag{kind: delims, opening: words[0], closing: words[1]}
}

func isBlank(char rune) bool {
	return strings.ContainsRune(ascii.Blanks, char)
}

func isDelim(word string) bool {
	return len(word) <= maxDelim && strings.IndexByte(word, '=') < 0
}

// isName tells if a text is a name: a dot, or identifiers with dots between.
func isName(text string) bool {
	if text == "." {
		return true
	}
	identifiers := strings.Split(text, ".")
	if len(identifiers) > api.MaxNames {
		return false
	}
	for _, one := range identifiers {
		if !IsIdentifier(one) {
			return false
		}
	}
	return true
}

// IsIdentifier tells if a text is one.
func IsIdentifier(text string) bool {
	if text == "" || len(text) > api.MaxName {
		return false
	}
	for at := range len(text) {
		if b := text[at]; b != '_' && !ascii.Digit(b) && (b < 'a' || 'z' < b) {
			return false
		}
	}
	return true
}
