package data

import "strings"

// Stack: pieces in which names are looked up, the top one last. It has at least
// one.
type Stack []Piece

// Find is the piece that a name means.
func (s Stack) Find(name string) Piece {
	if name == "." {
		return s[len(s)-1]
	}
	word, rest, more := strings.Cut(name, ".")
	found := s.first(word)
	for more {
		word, rest, more = strings.Cut(rest, ".")
		found, _ = found.field(word)
	}
	return found
}

// first is what the topmost Object that has the name has by it.
func (s Stack) first(name string) Piece {
	for level := len(s) - 1; level >= 0; level-- {
		if found, has := s[level].field(name); has {
			return found
		}
	}
	return Piece{}
}
