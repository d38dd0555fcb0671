// Package stencil: templates that no value can break: see DOC.md.
package stencil

import (
	"stencil/api"
	"stencil/escape"
	"stencil/markup"
	"stencil/plan"
	"stencil/render"
)

// Template is a template that was compiled.
type Template struct {
	plan plan.Plan
}

// Clean makes a value of bytes such as may be in a page (P3).
func Clean(value string) string { return escape.Clean(value) }

// Escape writes a value as it must be in its place (P4).
func Escape(as int, value string) (string, api.Errno) { return escape.Value(as, value) }

// Modes tells where in a page one is behind each byte (P5).
func Modes(page string) []int { return markup.Modes(page) }

// Compile reads a template and looks where its holes are (P6 to P9).
func Compile(text string, partials []api.Partial) (*Template, api.Fault) {
	made, fault := plan.Make(text, partials)
	if fault.Code != api.OK {
		return nil, fault
	}
	return &Template{made}, api.Fault{}
}

// Render fills the holes (P10 to P12).
func (t *Template) Render(data []api.Datum, depth int, room int) (string, []api.Hole, api.Errno) {
	if !t.isMade() || depth < 0 || depth > api.MaxDepth {
		return "", nil, api.ErrArg
	}
	return render.Page(t.plan, data, depth, room)
}

// isMade tells a template from what Compile gives beside a fault, or does not give.
func (t *Template) isMade() bool {
	return t != nil && len(t.plan.Visits) > 0
}
