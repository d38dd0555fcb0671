// Package tags cuts the text of a template into its tags and what stands
// between them.
package tags

import (
	"strings"

	"stencil/api"
	"stencil/ascii"
)

// The kinds of parts.
const (
	Text    = 1 + iota // what stands between tags
	Hole               // a name
	Section            // the beginning of one
	Turned             // the beginning of one that is turned round
	End                // the end of either
	Partial
)

// Part: a tag that says something, or what stands between two tags.
type Part struct {
	Kind int
	At   int    // the byte of the text at which it begins
	Text string // of a tag its name or identifier, else what stands there
	Mate int    // the part that is the end of this section, or the beginning of which this is the end
}

// Slip: what is wrong with a text, and where. Without a kind it is none.
type Slip struct {
	Kind, At int
}

// cutter cuts a text.
type cutter struct {
	text             string
	opening, closing string // what tags begin and end with, from here on
	parts            []Part
	open             []int // which parts are the beginnings of sections that are open
}

// Cut cuts a text into parts, up to the first slip.
func Cut(text string) ([]Part, Slip) {
	if len(text) > api.MaxText {
		return nil, Slip{api.TooLong, 0}
	}
	c := cutter{text: strings.Clone(text), opening: "{{", closing: "}}"}
	if slip := c.cut(); slip.Kind != 0 {
		return nil, slip
	}
	return c.parts, Slip{}
}

func (c *cutter) cut() Slip {
	from := 0
next:
	ahead, rest, found := strings.Cut(c.text[from:], c.opening)
	if !found {
		c.addText(from, len(c.text))
		return c.leftOpen()
	}
	at := from + len(ahead)
	inner, _, ended := strings.Cut(rest, c.closing)
	if !ended {
		return Slip{api.Unclosed, at}
	}
	to := at + len(c.opening) + len(inner) + len(c.closing)
	one := read(strings.Trim(inner, ascii.Blanks))
	outerAt, outerTo := at, to
	if one.kind != Hole {
		outerAt, outerTo = c.line(at, to)
	}
	c.addText(from, outerAt)
	if slip := c.take(one, at); slip != 0 {
		return Slip{slip, at}
	}
	from = outerTo
	goto next
}

// line is from where to where a tag goes with the blanks and the newline that are
// left out with it, if it stands alone.
func (c *cutter) line(at, to int) (int, int) {
	ahead := strings.TrimRight(c.text[:at], blanksOfLine)
	behind := strings.TrimLeft(c.text[to:], blanksOfLine)
	if ahead != "" && ahead[len(ahead)-1] != '\n' || behind != "" && behind[0] != '\n' {
		return at, to
	}
	return len(ahead), len(c.text) - len(strings.TrimPrefix(behind, "\n"))
}

func (c *cutter) addText(from, to int) {
	if from < to {
		c.parts = append(c.parts, Part{Kind: Text, At: from, Text: c.text[from:to]})
	}
}

// take does what a tag says, or answers the kind of the slip.
func (c *cutter) take(one tag, at int) int {
	if one.slip != 0 {
		return one.slip
	}
	part := Part{Kind: one.kind, At: at, Text: one.name}
	switch one.kind {
	case comment:
		return 0
	case delims:
		c.opening, c.closing = one.opening, one.closing
		return 0
	case Section, Turned:
		if len(c.open) == api.MaxSections {
			return api.Deep
		}
		c.open = append(c.open, len(c.parts))
	case End:
		if len(c.open) == 0 {
			return api.Stray
		}
		last := len(c.open) - 1
		part.Mate = c.open[last]
		if c.parts[part.Mate].Text != one.name {
			return api.Mismatch
		}
		c.parts[part.Mate].Mate = len(c.parts)
		c.open = c.open[:last]
	}
	c.parts = append(c.parts, part)
	return 0
}

// leftOpen is the slip of a text that ends here.
func (c *cutter) leftOpen() Slip {
	if len(c.open) == 0 {
		return Slip{}
	}
	last := c.open[len(c.open)-1]
	return Slip{api.Open, c.parts[last].At}
}
