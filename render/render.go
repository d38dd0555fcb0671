// Package render writes the page that a template comes to with its data.
package render

import (
	"strings"

	"stencil/api"
	"stencil/data"
	"stencil/escape"
	"stencil/plan"
	"stencil/tags"
)

// writer: what is written so far, and what bounds it.
type writer struct {
	visits []plan.Visit
	depth  int // in how many partials one may be
	room   int // how many bytes may be written, if it is not below 0
	stack  data.Stack
	steps  int
	out    strings.Builder
	holes  []api.Hole
}

// span: parts of a visit that follow one another.
type span struct {
	visit    plan.Visit
	from, to int
	within   int // in how many partials they are
}

// Page is the page and which bytes of it are the holes', or what has been
// written of it when something ends it early.
func Page(made plan.Plan, pieces []api.Datum, depth, room int) (string, []api.Hole, api.Errno) {
	w := writer{visits: made.Visits, depth: depth, room: room, stack: data.Stack{data.Whole(pieces)}}
	if err := w.text(0, 0); err != api.OK {
		return w.out.String(), nil, err
	}
	return w.out.String(), w.holes, api.OK
}

// text writes all of a visit's text.
func (w *writer) text(number, within int) api.Errno {
	visit := w.visits[number]
	return w.parts(span{visit, 0, len(visit.Parts), within})
}

func (w *writer) parts(all span) api.Errno {
	for at := all.from; at < all.to; at++ {
		if err := w.step(); err != api.OK {
			return err
		}
		part, mark := all.visit.Parts[at], all.visit.Marks[at]
		err := api.OK
		switch part.Kind {
		case tags.Text:
			err = w.write(part.Text)
		case tags.Hole:
			err = w.hole(part.Text, mark)
		case tags.Section, tags.Turned:
			err = w.section(part, span{all.visit, at + 1, part.Mate, all.within})
			at = part.Mate
		case tags.Partial:
			err = w.partial(mark, all.within+1)
		}
		if err != api.OK {
			return err
		}
	}
	return api.OK
}

func (w *writer) step() api.Errno {
	if w.steps == api.MaxWork {
		return api.ErrWork
	}
	w.steps++
	return api.OK
}

// write writes a text, or as much of it as there is room for.
func (w *writer) write(text string) api.Errno {
	if w.room >= 0 && len(text) > w.room-w.out.Len() {
		w.out.WriteString(text[:w.room-w.out.Len()])
		return api.ErrSink
	}
	w.out.WriteString(text)
	return api.OK
}

func (w *writer) hole(name string, as int) api.Errno {
	text, err := escape.Value(as, w.stack.Find(name).Text())
	if err != api.OK {
		return err
	}
	from := w.out.Len()
	err = w.write(text)
	w.holes = append(w.holes, api.Hole{From: from, To: w.out.Len(), As: as})
	return err
}

// section writes the body of a section as often as its value asks.
func (w *writer) section(opening tags.Part, body span) api.Errno {
	value := w.stack.Find(opening.Text)
	turned := opening.Kind == tags.Turned
	if value.Lacks() != turned {
		return api.OK
	}
	if turned {
		return w.body(body)
	}
	for piece := range value.Turns() {
		w.stack = append(w.stack, piece)
		if err := w.body(body); err != api.OK {
			return err
		}
		w.stack = w.stack[:len(w.stack)-1]
	}
	return api.OK
}

func (w *writer) body(body span) api.Errno {
	if err := w.step(); err != api.OK {
		return err
	}
	return w.parts(body)
}

// partial writes the text of a partial, if it is there.
func (w *writer) partial(visit, within int) api.Errno {
	if visit == 0 {
		return api.OK
	}
	if within > w.depth {
		return api.ErrDepth
	}
	return w.text(visit, within)
}
