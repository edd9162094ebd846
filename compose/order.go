package compose

import (
	"container/heap"
	"sort"

	"fleuron/api"
)

// ready are glyphs whose parts all stand there; a heap of them has the least one ahead.
type ready struct{ sort.IntSlice }

// Push puts a glyph behind the others.
func (r *ready) Push(glyph any) {
	r.IntSlice = append(r.IntSlice, glyph.(int))
}

// Pop takes the glyph that stands behind the others.
func (r *ready) Pop() any {
	last := len(r.IntSlice) - 1
	glyph := r.IntSlice[last]
	r.IntSlice = r.IntSlice[:last]
	return glyph
}

// ordered are glyphs, told with all that is part of them, each behind its parts: one by one the least one that does not stand there yet, and whose parts all do. What is part of itself, or has such a one as part of it, never comes to stand there.
func ordered(glyphs []api.Glyph, all []int) []int {
	var next ready
	missing := map[int]int{}  // how many of its parts do not stand there yet
	havers := map[int][]int{} // what has it as a part, as often as it does
	for _, glyph := range all {
		for part := range parts(glyphs, glyph) {
			missing[glyph]++
			havers[part.Glyph] = append(havers[part.Glyph], glyph)
		}
		if missing[glyph] == 0 {
			heap.Push(&next, glyph)
		}
	}
	var order []int
	for next.Len() > 0 {
		glyph := heap.Pop(&next).(int)
		order = append(order, glyph)
		for _, haver := range havers[glyph] {
			missing[haver]--
			if missing[haver] == 0 {
				heap.Push(&next, haver)
			}
		}
	}
	return order
}

// worked is what is worked out of the last glyph of an order: of each one in its turn, by what is known of those ahead.
func worked[T any](order []int, out func(glyph int, known map[int]T) T) T {
	var last T
	known := map[int]T{}
	for _, glyph := range order {
		last = out(glyph, known)
		known[glyph] = last
	}
	return last
}
