package sets

import "iter"

// Ranges are a set's longest stretches of numbers next to each other: the first one and the last one of each.
func Ranges(l []int) iter.Seq2[int, int] {
	// A copy, as the row may be written to between here and the going over.
	kept := Of(l...)
	return func(yield func(int, int) bool) {
		begin := 0
		for i, n := range kept {
			behind := i + 1
			// One less than the next number goes round nowhere, as there is a number below that one.
			if behind < len(kept) && kept[behind]-1 == n {
				continue
			}
			if !yield(kept[begin], n) {
				return
			}
			begin = behind
		}
	}
}
