package plan

import (
	"stencil/api"
	"stencil/markup"
	"stencil/tags"
)

// maxEntries is from how many states partials may be named in all: past it
// nothing is promised, and the search is given up.
const maxEntries = 256

// entry: a text, and the state from which it is gone through.
type entry struct {
	source int
	from   markup.State
}

// body: a section's body that is being gone through.
type body struct {
	ahead markup.State // of the section
	end   int          // the part that ends it
}

// search: what is known while a template is looked through.
type search struct {
	sources []source
	places  map[string]int         // which of sources a partial is
	ends    map[entry]markup.State // in what it ends
	numbers map[entry]int          // which visit is its
	visits  []Visit
	fault   api.Fault
}

// lookThrough goes through a template from its beginning: the visits, or else
// the first thing that is wrong.
func lookThrough(sources []source, length int) ([]Visit, api.Fault) {
	s := search{
		sources: sources,
		places:  map[string]int{},
		ends:    map[entry]markup.State{},
		numbers: map[entry]int{},
	}
	for place := 1; place < len(sources); place++ {
		s.places[sources[place].name] = place
	}
	whole := entry{0, markup.Begin()}
	s.through(whole)
	if s.fault.Code == api.OK {
		s.checkEnd(whole, length)
	}
	if s.fault.Code != api.OK {
		return nil, s.fault
	}
	return s.visits, api.Fault{}
}

// checkEnd: that the template's own text ends as it begins.
func (s *search) checkEnd(whole entry, length int) {
	if end := s.walk(whole); !end.None() && end != whole.from {
		s.wrong(whole, api.End, length)
	}
}

// through goes through a text and, where they are named, the partials that were
// not gone through yet, and breaks off at the first thing that is wrong.
func (s *search) through(e entry) {
	parts, marks := s.visit(e)
	now := e.from
	var bodies []body
search:
	for at := 0; at < len(parts); at++ {
		part := parts[at]
		switch part.Kind {
		case tags.Text:
			for i := range len(part.Text) {
				if now.MakesScheme(part.Text[i]) {
					s.wrong(e, api.Scheme, part.At+i)
					break search
				}
				now = now.Behind(part.Text[i])
			}
		case tags.Hole:
			as, wrong := now.Hole()
			if wrong != 0 {
				s.wrong(e, wrong, part.At)
				break search
			}
			marks[at], now = as, now.BehindHole()
		case tags.Section, tags.Turned:
			bodies = append(bodies, body{now, part.Mate})
		case tags.End:
			last := len(bodies) - 1
			if now != bodies[last].ahead {
				s.wrong(e, api.Branch, parts[part.Mate].At)
				break search
			}
			bodies = bodies[:last]
		case tags.Partial:
			marks[at], now = s.name(part.Text, now)
			if s.fault.Code != api.OK || now.None() && len(bodies) == 0 {
				break search
			}
			if !now.None() {
				continue search
			}
			// What follows in the body is never come to, nor is its end.
			inner := bodies[len(bodies)-1]
			now, at = inner.ahead, inner.end-1
		}
	}
}

// visit begins the visit of a text.
func (s *search) visit(e entry) ([]tags.Part, []int) {
	one := Visit{s.sources[e.source].parts, make([]int, len(s.sources[e.source].parts))}
	s.numbers[e] = len(s.visits)
	s.visits = append(s.visits, one)
	return one.Parts, one.Marks
}

// name goes through a partial if it is named from that state for the first
// time, and answers its visit and in what it ends.
func (s *search) name(name string, now markup.State) (int, markup.State) {
	end := s.behind(name, now)
	e := entry{s.places[name], now}
	if e.source == 0 || s.fault.Code != api.OK {
		return 0, end
	}
	if s.numbers[e] == 0 {
		s.through(e)
	}
	return s.numbers[e], end
}

// behind is the state behind where a partial is named.
func (s *search) behind(name string, now markup.State) markup.State {
	e := entry{s.places[name], now}
	if e.source == 0 {
		return now
	}
	if end, known := s.ends[e]; known {
		return end
	}
	if len(s.ends) == maxEntries {
		s.fault = api.Fault{Code: api.ErrContext}
		return markup.State{}
	}
	// What needs this end to find it, needs it for ever: that ends in no state.
	s.ends[e] = markup.State{}
	s.ends[e] = s.walk(e)
	return s.ends[e]
}

// walk is the state in which a text ends, whatever is wrong on the way. Bodies
// are left out, because behind a section the state is that ahead of it.
func (s *search) walk(e entry) markup.State {
	parts := s.sources[e.source].parts
	now := e.from
	for at := 0; at < len(parts) && !now.None(); at++ {
		part := parts[at]
		switch part.Kind {
		case tags.Text:
			for i := range len(part.Text) {
				now = now.Behind(part.Text[i])
			}
		case tags.Hole:
			now = now.BehindHole()
		case tags.Section, tags.Turned:
			at = part.Mate
		case tags.Partial:
			now = s.behind(part.Text, now)
		}
	}
	return now
}

// wrong keeps what is wrong.
func (s *search) wrong(in entry, kind, at int) {
	s.fault = api.Fault{Code: api.ErrContext, Kind: kind, Where: s.sources[in.source].name, At: at}
}
