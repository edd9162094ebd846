package compose

import (
	"iter"

	"fleuron/api"
)

// there tells whether there is a glyph of a number.
func there(glyphs []api.Glyph, glyph int) bool {
	return 0 <= glyph && glyph < len(glyphs)
}

// numbers are the numbers of all glyphs.
func numbers(glyphs []api.Glyph) []int {
	all := make([]int, len(glyphs))
	for glyph := range glyphs {
		all[glyph] = glyph
	}
	return all
}

// parts tells a glyph's parts, in order, as often as they stand there.
func parts(glyphs []api.Glyph, glyph int) iter.Seq[api.Part] {
	return func(yield func(api.Part) bool) {
		for _, part := range glyphs[glyph].Parts {
			if there(glyphs, part.Glyph) && !yield(part) {
				return
			}
		}
	}
}

// walk is on its way down from a glyph.
type walk struct {
	glyphs  []api.Glyph
	known   map[int]bool // those that were told
	waiting []int        // those that were told, and are still to be gone into
}

// within tells a glyph, and all that is part of it, each once.
func within(glyphs []api.Glyph, glyph int) iter.Seq[int] {
	return func(yield func(int) bool) {
		w := walk{glyphs: glyphs, known: map[int]bool{glyph: true}, waiting: []int{glyph}}
		if !yield(glyph) {
			return
		}
		for len(w.waiting) > 0 {
			from := w.waiting[0]
			w.waiting = w.waiting[1:]
			for part := range w.below(from, api.MaxDeep) {
				if !yield(part) {
					return
				}
			}
		}
	}
}

// below tells what is part of a glyph, and was not told yet, down so many levels.
func (w *walk) below(glyph, levels int) iter.Seq[int] {
	return func(yield func(int) bool) {
		if levels == 0 {
			// A way down may be of any length; ranges within ranges may not.
			w.waiting = append(w.waiting, glyph)
			return
		}
		for part := range parts(w.glyphs, glyph) {
			if w.known[part.Glyph] {
				continue
			}
			w.known[part.Glyph] = true
			if !yield(part.Glyph) {
				return
			}
			for deeper := range w.below(part.Glyph, levels-1) {
				if !yield(deeper) {
					return
				}
			}
		}
	}
}
