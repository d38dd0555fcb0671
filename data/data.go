// Package data tells what pieces of data say to holes and sections, and which of
// them a name means.
package data

import (
	"iter"
	"strconv"

	"stencil/api"
)

// Piece: a piece of data, among all. The zero Piece is NULL.
type Piece struct {
	all []api.Datum
	at  int
}

// Whole is the piece that the others are in.
func Whole(all []api.Datum) Piece {
	return Piece{all, 0}
}

// datum is what a piece says; of one that is not there, NULL.
func (p Piece) datum() api.Datum {
	if p.at >= len(p.all) {
		return api.Datum{}
	}
	return p.all[p.at]
}

// item is the piece that a number among this one's items stands for. Because it
// is a later one, no piece is within itself.
func (p Piece) item(number int) Piece {
	if number <= p.at {
		return Piece{}
	}
	return Piece{p.all, number}
}

// field is what an Object has by a name, if it has it.
func (p Piece) field(name string) (Piece, bool) {
	d := p.datum()
	if d.Kind != api.Object {
		return Piece{}, false
	}
	for i := range min(len(d.Names), len(d.Items)) {
		if d.Names[i] == name {
			return p.item(d.Items[i]), true
		}
	}
	return Piece{}, false
}

// Text is what a hole shows of a piece.
func (p Piece) Text() string {
	d := p.datum()
	switch d.Kind {
	case api.Bool:
		return strconv.FormatBool(d.N != 0)
	case api.Int:
		return strconv.FormatInt(d.N, 10)
	case api.Str:
		return d.S
	}
	return ""
}

// Lacks tells if sections take a piece for one that is lacking.
func (p Piece) Lacks() bool {
	d := p.datum()
	switch d.Kind {
	case api.Bool:
		return d.N == 0
	case api.Str:
		return d.S == ""
	case api.List:
		return len(d.Items) == 0
	case api.Int, api.Object:
		return false
	}
	return true
}

// Turns are the pieces with which the body of a section is written for this one:
// the items of a List, else it alone.
func (p Piece) Turns() iter.Seq[Piece] {
	return func(yield func(Piece) bool) {
		d := p.datum()
		if d.Kind != api.List {
			yield(p)
			return
		}
		for _, number := range d.Items {
			if !yield(p.item(number)) {
				return
			}
		}
	}
}
