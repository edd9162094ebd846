package compose

import (
	"slices"

	"fleuron/api"
)

// step is a glyph that is gone into, and the number of the next one of its Parts.
type step struct{ glyph, next int }

// ring is glyphs of which each one is part of all others: where it begins in the row of open ones; looped: they are part of themselves, too.
type ring struct {
	begin  int
	looped bool
}

// closed is the place of a glyph whose ring is whole.
const closed = -1

// search goes into glyphs, part by part, and finds their rings.
type search struct {
	glyphs []api.Glyph
	place  map[int]int // where a glyph stands in the row of open ones
	open   []int       // those that were gone into, and whose rings are not whole yet
	rings  []ring      // rings of open ones; each ends where the next one begins
	path   []step      // the way down: a row, as it may be longer than calls may lie within calls
	first  int
}

// firstLooped is the first glyph that is part of itself; how many glyphs there are, if none is.
func firstLooped(glyphs []api.Glyph) int {
	s := search{glyphs: glyphs, place: map[int]int{}, first: len(glyphs)}
	for glyph := range glyphs {
		s.meet(glyph)
		for len(s.path) > 0 {
			s.step()
		}
	}
	return s.first
}

// step goes on with the last glyph of the path: to its next part, or, behind the last one, out of it.
func (s *search) step() {
	last := &s.path[len(s.path)-1]
	parts := s.glyphs[last.glyph].Parts
	if last.next == len(parts) {
		s.leave(last.glyph)
		return
	}
	part := parts[last.next].Glyph
	last.next++
	if there(s.glyphs, part) {
		s.meet(part)
	}
}

// meet goes into a glyph that is new; one that is open makes a ring of all that was gone into since.
func (s *search) meet(glyph int) {
	place, met := s.place[glyph]
	switch {
	case !met:
		s.place[glyph] = len(s.open)
		s.rings = append(s.rings, ring{begin: len(s.open)})
		s.open = append(s.open, glyph)
		s.path = append(s.path, step{glyph: glyph})
	case place != closed:
		for s.rings[len(s.rings)-1].begin > place {
			s.rings = s.rings[:len(s.rings)-1]
		}
		s.rings[len(s.rings)-1].looped = true
	}
}

// leave goes out of a glyph; if it is the one that its ring begins with, that is whole.
func (s *search) leave(glyph int) {
	s.path = s.path[:len(s.path)-1]
	last := s.rings[len(s.rings)-1]
	if last.begin != s.place[glyph] {
		return
	}
	whole := s.open[last.begin:]
	if last.looped {
		s.first = min(s.first, slices.Min(whole))
	}
	for _, each := range whole {
		s.place[each] = closed
	}
	s.open = s.open[:last.begin]
	s.rings = s.rings[:len(s.rings)-1]
}
