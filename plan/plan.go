// Package plan looks where in a page the holes of a template are, whatever
// sections are taken and partials named, and lays down how each is written.
package plan

import (
	"strings"

	"stencil/api"
	"stencil/tags"
)

// Plan: the texts of a template, gone through from each state in which they are
// named. The first visit is that of the template's own text.
type Plan struct {
	Visits []Visit
}

// Visit: a text, gone through from one state. By part it has a mark: of a hole
// how it is written, of a partial its visit, or 0 if it is not there. What stands
// behind something that ends in no state is unmarked, because it is never come to.
type Visit struct {
	Parts []tags.Part
	Marks []int
}

// source: a text of a template, and the partial's name.
type source struct {
	name  string
	parts []tags.Part
}

// Make is the plan of a template, or else the fault.
func Make(text string, partials []api.Partial) (Plan, api.Fault) {
	if !areArgs(partials) {
		return Plan{}, api.Fault{Code: api.ErrArg}
	}
	sources, fault := cutAll(text, partials)
	if fault.Code != api.OK {
		return Plan{}, fault
	}
	visits, fault := lookThrough(sources, len(text))
	if fault.Code != api.OK {
		return Plan{}, fault
	}
	return Plan{visits}, api.Fault{}
}

// areArgs tells if partials are few enough and have names, each its own.
func areArgs(partials []api.Partial) bool {
	if len(partials) > api.MaxPartials {
		return false
	}
	for i := range partials {
		if !tags.IsIdentifier(partials[i].Name) {
			return false
		}
		for j := range i {
			if partials[j].Name == partials[i].Name {
				return false
			}
		}
	}
	return true
}

// cutAll cuts a template's own text and then the partials, up to the first slip.
func cutAll(text string, partials []api.Partial) ([]source, api.Fault) {
	all := append([]api.Partial{{Text: text}}, partials...)
	sources := make([]source, len(all))
	for i, one := range all {
		name := strings.Clone(one.Name)
		parts, slip := tags.Cut(one.Text)
		if slip.Kind != 0 {
			return nil, api.Fault{Code: api.ErrSyntax, Kind: slip.Kind, Where: name, At: slip.At}
		}
		sources[i] = source{name, parts}
	}
	return sources, api.Fault{}
}
