package outline

import (
	"iter"
	"slices"

	"fleuron/api"
)

// Contours are the points of each contour, and its number.
func Contours(o api.Outline) iter.Seq2[int, []api.Point] {
	kept := copied(o)
	return func(yield func(int, []api.Point) bool) {
		// What is told is the caller's, to write to as well, so each going over tells points of its own.
		cut(slices.Clone(kept.Points), kept.Ends)(yield)
	}
}

// cut tells each contour's piece of the points, and its number, up to the first End that can't be one.
func cut(points []api.Point, ends []int) iter.Seq2[int, []api.Point] {
	return func(yield func(int, []api.Point) bool) {
		begin := 0
		for number, end := range ends {
			if end < begin || end >= len(points) {
				return
			}
			behind := end + 1
			// Without a third index, what is appended to a piece would be written over the next one.
			if !yield(number, points[begin:behind:behind]) {
				return
			}
			begin = behind
		}
	}
}
