package ratio

const (
	wordBits = 64
	halfBits = wordBits / 2
	halfMask = 1<<halfBits - 1
	topBit   = 1 << (wordBits - 1)
	lowest   = -topBit // no ratio has it as its N
)

// wide is a number of two words, the high one first.
type wide [2]uint64

// signed is a wide number with a sign beside it, so that all words are divided as they stand.
type signed struct {
	magnitude wide
	below     bool
}

// told is a number of one word; false, if it does not fit.
func (n signed) told() (int64, bool) {
	low := n.magnitude[1]
	switch {
	case n.magnitude[0] != 0 || low > topBit || low == topBit && !n.below:
		return 0, false
	case n.below:
		return -int64(low), true
	}
	return int64(low), true
}

// magnitude is a number without its sign; that of -2^63 fits, as it has none.
func magnitude(n int64) uint64 {
	if n < 0 {
		return -uint64(n)
	}
	return uint64(n)
}

func times(n int64, by uint64) signed {
	return signed{product(magnitude(n), by), n < 0}
}

func plus(a, b signed) signed {
	switch {
	case a.below == b.below:
		return signed{sum(a.magnitude, b.magnitude), a.below}
	case less(a.magnitude, b.magnitude):
		return signed{difference(b.magnitude, a.magnitude), b.below}
	}
	return signed{difference(a.magnitude, b.magnitude), a.below}
}

func less(a, b wide) bool {
	return a[0] < b[0] || a[0] == b[0] && a[1] < b[1]
}

// sum is of numbers that have no more than 127 bits.
func sum(a, b wide) wide {
	low := a[1] + b[1]
	high := a[0] + b[0]
	if low < a[1] { // it went round
		high++
	}
	return wide{high, low}
}

// difference is of a number and one that is not more.
func difference(a, b wide) wide {
	high := a[0] - b[0]
	if a[1] < b[1] {
		high--
	}
	return wide{high, a[1] - b[1]}
}

// product goes by half words, so that no product on the way, with what is carried, has more than a word.
func product(a, b uint64) wide {
	low := (a & halfMask) * (b & halfMask)
	middle := (a>>halfBits)*(b&halfMask) + low>>halfBits
	other := (a&halfMask)*(b>>halfBits) + middle&halfMask
	high := (a>>halfBits)*(b>>halfBits) + middle>>halfBits + other>>halfBits
	return wide{high, other<<halfBits | low&halfMask}
}

// divide is a number by a divisor from 1 to 2^63, and the rest.
func divide(n wide, by uint64) (wide, uint64) {
	high, rest := n[0]/by, n[0]%by
	if rest == 0 { // so it is of most numbers: they fit into a word
		return wide{high, n[1] / by}, n[1] % by
	}
	var low uint64
	for bit := wordBits - 1; bit >= 0; bit-- {
		// The rest is below 2^63, so twice of it and a bit fit into a word.
		rest = rest<<1 | n[1]>>bit&1
		low <<= 1
		if rest >= by {
			rest -= by
			low |= 1
		}
	}
	return wide{high, low}, rest
}
