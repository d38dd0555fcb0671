// Package markup reads pages byte by byte and tells where in them one is.
package markup

import (
	"cmp"
	"strings"

	"stencil/api"
	"stencil/ascii"
)

// mode: one of those that package api numbers.
type mode uint8

// State: the mode, and what else counts from here on, and nothing else, so that
// states can be held against each other. Without a mode it is no state.
type State struct {
	mode    mode
	name    string // of a tag or attribute, as far as it is read
	element string // whose tag or content this is, if it is one of elements
	kind    int    // of the attribute that this is, behind its name
	endRead int    // bytes of the element's end that are read
	marks
}

// Begin is the state in which a page begins.
func Begin() State {
	return State{mode: api.Text}
}

// None tells if this is no state.
func (s State) None() bool {
	return s.mode == 0
}

// Modes is for each byte the mode behind it.
func Modes(page string) []int {
	modes := make([]int, len(page))
	now := Begin()
	for at := range len(page) {
		now = now.Behind(page[at])
		modes[at] = int(now.mode)
	}
	return modes
}

// Behind is the state behind one more byte.
func (s State) Behind(b byte) State {
	if s.mode >= api.Soft {
		if s.ends(b) {
			return State{mode: behindEnd(b)}
		}
		s.endRead = s.readEnd(b)
	}
	if escapes[s.mode] && (s.escaping || b == '\\') {
		s.marks = s.escaped(b)
		return s
	}
table:
	to := stepOn(s.mode, b)
	if to == 0 && readIn[s.mode] != 0 {
		s.mode = readIn[s.mode]
		goto table
	}
	return s.led(cmp.Or(to, others[s.mode], s.mode), b)
}

// stepOn is the mode to which b leads, or 0 if the tables' bytes do not have it.
func stepOn(in mode, b byte) mode {
	if ascii.Letter(b) {
		b = letter[0]
	}
	if in < api.Soft {
		for i := range markupSteps {
			if markupSteps[i].in == in && strings.IndexByte(markupSteps[i].on, b) >= 0 {
				return markupSteps[i].to
			}
		}
		return 0
	}
	for i := range contentSteps {
		if contentSteps[i].in == in && strings.IndexByte(contentSteps[i].on, b) >= 0 {
			return contentSteps[i].to
		}
	}
	return 0
}

// led is the state behind b, which leads to that mode.
func (s State) led(to mode, b byte) State {
	if to == s.mode {
		s.marks = s.stayed(b)
	} else {
		s = s.named()
		s.marks = marks{}
	}
	s.mode = to
	switch to {
	case api.TagName:
		s.name = longer(s.name, b)
	case api.AttrName:
		s.name, s.kind = longer(s.name, b), plain
	case api.InTag, api.Bare:
		s.kind = plain
	case content:
		return within(s.element)
	}
	return s
}

// named is the state in which only what the name stands for counts, not the name.
func (s State) named() State {
	switch s.mode {
	case api.TagName:
		s.element = elementOf(s.name)
	case api.AttrName:
		s.kind = kindOf(s.name)
	}
	s.name = ""
	return s
}

// longer is the name with one more byte, as far as names are kept.
func longer(name string, b byte) string {
	if len(name) == api.MaxKept {
		return name
	}
	return name + string([]byte{ascii.SmallByte(b)})
}

// elementOf is the name, if it is one of elements.
func elementOf(name string) string {
	for i := range elements {
		if elements[i].name == name {
			return name
		}
	}
	return ""
}

// within is the state in which the content of an element of that name begins.
func within(name string) State {
	for i := range elements {
		if elements[i].name == name {
			return State{mode: elements[i].content, element: name}
		}
	}
	return State{mode: api.Text}
}

func kindOf(name string) int {
	for i := range attributes {
		if attributes[i].name == name || attributes[i].begin && strings.HasPrefix(name, attributes[i].name) {
			return attributes[i].kind
		}
	}
	return plain
}

// end is what the end of the element begins with.
func (s State) end() string {
	return "</" + s.element
}

// ends tells if b is the byte by which the element's end is one.
func (s State) ends(b byte) bool {
	return s.endRead == len(s.end()) && strings.IndexByte(ascii.Blanks+"/>", b) >= 0
}

// behindEnd is the mode behind the byte by which an element's end is one.
func behindEnd(b byte) mode {
	if b == '>' {
		return api.Text
	}
	return api.EndName
}

// readEnd is how much of the element's end is read, with b.
func (s State) readEnd(b byte) int {
	end := s.end()
	if s.endRead < len(end) && ascii.SmallByte(b) == end[s.endRead] {
		return s.endRead + 1
	}
	if b == end[0] {
		return 1
	}
	return 0
}
