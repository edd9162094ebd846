package sets

import "iter"

// side is in which of two sets numbers are: in the first one only, in the other one only, in both, or, bit by bit, in some of these.
type side int

const (
	only side = 1 << iota
	other
	both
)

// Union is the set of the numbers of either row.
func Union(a, b []int) []int { return chosen(asSet(a), asSet(b), only|other|both) }

// Meet is the set of the numbers of both rows.
func Meet(a, b []int) []int { return chosen(asSet(a), asSet(b), both) }

// Minus is the set of the numbers of the first row that are not of the other one.
func Minus(a, b []int) []int { return chosen(asSet(a), asSet(b), only) }

// Sub tells whether all of the first row are of the other one.
func Sub(a, b []int) bool {
	for _, in := range together(asSet(a), asSet(b)) {
		if in == only {
			return false
		}
	}
	return true
}

// chosen are the numbers of two sets that are on one of the sides.
func chosen(a, b []int, sides side) []int {
	var l []int
	for n, in := range together(a, b) {
		if in&sides != 0 {
			l = append(l, n)
		}
	}
	return l
}

// together goes over the numbers of two sets, rising, and tells of each in which it is.
func together(a, b []int) iter.Seq2[int, side] {
	return func(yield func(int, side) bool) {
		i, j := 0, 0
		for i < len(a) || j < len(b) {
			var n int
			var in side
			switch {
			case j == len(b) || i < len(a) && a[i] < b[j]:
				n, in = a[i], only
				i++
			case i == len(a) || b[j] < a[i]:
				n, in = b[j], other
				j++
			default:
				n, in = a[i], both
				i, j = i+1, j+1
			}
			if !yield(n, in) {
				return
			}
		}
	}
}
