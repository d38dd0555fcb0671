package markup

import (
	"strings"

	"stencil/api"
	"stencil/ascii"
)

// marks: what counts only as long as one stays in a mode.
type marks struct {
	reference bool // behind a & that may still be one
	escaping  bool // just behind a backslash that counts
	hexLeft   int  // how many bytes of hex an escape may still take
	percent   int  // how many bytes of hex a percent still asks for
	far       int  // how far a link is
}

// How far a link is.
const (
	fresh = iota
	undecided
	mixed
	decided
)

// deciders are the bytes behind which nothing can make a scheme of a link's beginning.
const deciders = "/?#:"

// Hole tells how a hole is written here, or else what is wrong with it.
func (s State) Hole() (as, wrong int) {
	as = writtenAs(s.mode)
	switch {
	case as == 0:
		return 0, api.HolePlace
	case s.kind == barred:
		return 0, api.HoleAttr
	case s.halfway():
		return 0, api.HoleMid
	case s.inLink() && s.far == fresh:
		return api.AsFirst, 0
	case s.inLink():
		return api.AsLink, 0
	}
	return as, 0
}

// BehindHole is the state behind a hole.
func (s State) BehindHole() State {
	if s.inLink() && s.far < mixed {
		s.far = mixed
	}
	return s
}

// MakesScheme tells if b could make a scheme of a value ahead of it.
func (s State) MakesScheme(b byte) bool {
	return b == ':' && s.inLink() && s.far == mixed
}

// writtenAs is how a hole in that mode is written, or 0 if none may be there.
func writtenAs(in mode) int {
	switch in {
	case api.Text, api.Soft, api.Double, api.Single:
		return api.AsText
	case api.JsDouble, api.JsSingle:
		return api.AsJs
	case api.CsDouble, api.CsSingle:
		return api.AsCss
	}
	return 0
}

// halfway tells if something has begun that a value could end otherwise.
func (s State) halfway() bool {
	return s.reference || s.escaping || s.hexLeft > 0 || s.percent > 0 || s.endRead > 0
}

// inLink tells if one is in the value, in quotes, of an attribute that is a link.
func (s State) inLink() bool {
	return s.kind == link && (s.mode == api.Double || s.mode == api.Single)
}

// stayed is what is marked behind b, by which one stays in the mode.
func (s State) stayed(b byte) marks {
	next := marks{hexLeft: fewer(s.hexLeft, b)}
	if writtenAs(s.mode) == api.AsText {
		next.reference = b == '&' || s.reference && inReference(b)
	}
	if s.inLink() {
		next.percent = fewer(s.percent, b)
		if b == '%' {
			next.percent = 2
		}
		next.far = s.farther(b)
	}
	return next
}

// escaped is what is marked behind b, which is a backslash that counts, or just
// behind one.
func (s State) escaped(b byte) marks {
	if !s.escaping {
		return marks{escaping: true}
	}
	for i := range longEscapes {
		one := longEscapes[i]
		if one.from <= s.mode && s.mode <= one.to && strings.IndexByte(one.on, b) >= 0 {
			return marks{hexLeft: one.hexLeft}
		}
	}
	return marks{}
}

// fewer is how many bytes of hex are left behind b.
func fewer(left int, b byte) int {
	if left > 0 && strings.IndexByte(ascii.Hex, b) >= 0 {
		return left - 1
	}
	return 0
}

func inReference(b byte) bool {
	return ascii.Letter(b) || ascii.Digit(b) || b == '#'
}

// farther is how far the link is behind b. A colon behind a value decides
// nothing, because what is ahead of it may be the scheme.
func (s State) farther(b byte) int {
	switch {
	case s.MakesScheme(b):
		return mixed
	case strings.IndexByte(deciders, b) >= 0:
		return decided
	case s.far == fresh:
		return undecided
	}
	return s.far
}
