package ratio

import "fleuron/api"

// Floor is the greatest whole number that is not above a ratio; 0, if that may not be.
func Floor(a api.Ratio) int64 {
	if !mayBe(a) {
		return 0
	}
	floor, _ := cut(times(a.N, 1), uint64(a.D), down(a.N < 0))
	return floor
}

// Round is the greatest whole number that is not above a ratio and a half; 0, if that ratio may not be.
func Round(a api.Ratio) int64 {
	if !mayBe(a) {
		return 0
	}
	round, _ := Scale(a.N, 1, a.D)
	return round
}

// Scale is the greatest whole number that is not above n times a by b and a half; false, if it does not fit, or b is 0.
func Scale(n, a, b int64) (int64, bool) {
	if b == 0 {
		return 0, false
	}
	scaled := times(n, magnitude(a))
	scaled.below = n < 0 != (a < 0) != (b < 0)
	return cut(scaled, magnitude(b), nearest(scaled.below, magnitude(b)))
}

// cut is a number by a divisor as a whole one: away tells of the rest whether it is the next one away from 0.
func cut(n signed, by uint64, away func(rest uint64) bool) (int64, bool) {
	whole, rest := divide(n.magnitude, by)
	if away(rest) {
		whole = sum(whole, wide{0, 1})
	}
	return signed{whole, n.below}.told()
}

// down cuts to the whole number that is not above: below 0 that is the one away from 0.
func down(below bool) func(rest uint64) bool {
	return func(rest uint64) bool {
		return below && rest > 0
	}
}

// nearest cuts to the nearest whole number, and a half to the upper one: below 0 that is the one nearer to 0.
func nearest(below bool, by uint64) func(rest uint64) bool {
	return func(rest uint64) bool {
		left := by - rest
		return rest > left || rest == left && !below
	}
}
