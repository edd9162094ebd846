package sets_test

import (
	"math"
	"math/rand"
	"slices"
	"testing"

	"fleuron/sets"
)

const (
	least    = math.MinInt
	greatest = math.MaxInt
)

// row is numbers together.
func row(l ...int) []int { return l }

// rows are all rows of up to so many of the numbers.
func rows(most int, numbers ...int) [][]int {
	all := [][]int{nil}
	for from := 0; most > 0; most-- {
		to := len(all)
		for _, l := range all[from:to] {
			for _, n := range numbers {
				all = append(all, append(slices.Clone(l), n))
			}
		}
		from = to
	}
	return all
}

// drawn is a row by chance: few numbers or many, near each other or anywhere, a set or none.
func drawn(r *rand.Rand) []int {
	l := make([]int, r.Intn([]int{3, 8, 40, 200}[r.Intn(4)]))
	near := []int{3, 10, 60, 500, 0}[r.Intn(5)]
	for i := range l {
		if near == 0 {
			l[i] = []int{least, least + 1, -1, 0, 1, greatest - 1, greatest, int(r.Uint64())}[r.Intn(8)]
		} else {
			l[i] = r.Intn(near) - near/3
		}
	}
	if r.Intn(2) == 0 {
		slices.Sort(l)
	}
	if r.Intn(2) == 0 {
		l = slices.Compact(l)
	}
	return l
}

// wantOf is the set of a row: the least number that is left, again and again.
func wantOf(l []int) []int {
	var all []int
	left := slices.Clone(l)
	for len(left) > 0 {
		n := slices.Min(left)
		all = append(all, n)
		left = slices.DeleteFunc(left, func(other int) bool { return other == n })
	}
	return all
}

// wantRight tells whether a row rises, each number once.
func wantRight(l []int) bool {
	for i := range l {
		for _, behind := range l[i+1:] {
			if behind <= l[i] {
				return false
			}
		}
	}
	return true
}

// holdOf holds Of and Right against the promise's words, also asked of what Of tells.
func holdOf(t *testing.T, l []int) {
	t.Helper()
	given, want := slices.Clone(l), wantOf(l)
	got := sets.Of(l...)
	if !slices.Equal(got, want) {
		t.Fatalf("Of(%v) = %v, want %v", l, got, want)
	}
	if got := sets.Right(l); got != wantRight(l) {
		t.Fatalf("Right(%v) = %t", l, got)
	}
	if !sets.Right(got) || !slices.Equal(sets.Of(got...), want) {
		t.Fatalf("Of(%v) = %v, which is no set", l, got)
	}
	if !slices.Equal(l, given) {
		t.Fatalf("%v was handed in, and is %v", given, l)
	}
}

// P6.1: rows of none, of one and of several numbers, that stand twice, rise or fall.
func TestOf(t *testing.T) {
	for _, x := range []struct{ l, want []int }{
		{nil, nil},
		{row(), nil},
		{row(3, 1, 2, 3), row(1, 2, 3)},
		{row(0), row(0)},
		{row(-7), row(-7)},
		{row(1, 2, 3), row(1, 2, 3)},
		{row(3, 2, 1), row(1, 2, 3)},
		{row(5, 5), row(5)},
		{row(5, 5, 5, 5), row(5)},
		{row(1, 1, 2, 2, 2, 9), row(1, 2, 9)},
		{row(4, 4, 2, 2), row(2, 4)},
		{row(2, 1, 2, 1, 2), row(1, 2)},
		{row(0, -1, 1, -2), row(-2, -1, 0, 1)},
		{row(greatest, least), row(least, greatest)},
		{row(least, greatest), row(least, greatest)},
		{row(greatest, greatest, least, least), row(least, greatest)},
		{row(0, greatest, -1, least, greatest-1, least+1), row(least, least+1, -1, 0, greatest-1, greatest)},
	} {
		if got := sets.Of(x.l...); !slices.Equal(got, x.want) {
			t.Errorf("Of(%v) = %v, want %v", x.l, got, x.want)
		}
		if got, want := sets.Right(x.l), slices.Equal(x.l, x.want); got != want {
			t.Errorf("Right(%v) = %t", x.l, got)
		}
	}
	if len(sets.Of()) != 0 {
		t.Error("Of nothing there is something")
	}
}

// P6.1: a row is no set where one number alone stands twice, or falls, wherever that is.
func TestRightOfOneWrongNumber(t *testing.T) {
	for length := range 12 {
		l := make([]int, length)
		for i := range l {
			l[i] = 3 * i
		}
		if !sets.Right(l) {
			t.Errorf("Right(%v) is false", l)
		}
		for i := 1; i < length; i++ {
			for _, wrong := range row(l[i-1], l[i-1]-1, least) {
				other := slices.Clone(l)
				other[i] = wrong
				if sets.Right(other) {
					t.Errorf("Right(%v) is true", other)
				}
			}
		}
	}
}

// P6.1: of all short rows, and of many longer ones, what the promise's words say.
func TestOfManyRows(t *testing.T) {
	for _, l := range rows(6, 0, 1, 2, 3) {
		holdOf(t, l)
	}
	for _, l := range rows(4, least, least+1, -1, 0, greatest-1, greatest) {
		holdOf(t, l)
	}
	r := rand.New(rand.NewSource(61))
	for range 5000 {
		holdOf(t, drawn(r))
	}
}

// P1, R5: rows of very many numbers: rising, falling, the same ones, and in no order.
func TestOfLongRows(t *testing.T) {
	const n = 1 << 20
	r := rand.New(rand.NewSource(62))
	rise, fall, equal, mixed := make([]int, n), make([]int, n), make([]int, n), make([]int, n)
	for i := range n {
		rise[i], fall[i], equal[i], mixed[i] = 2*i, 2*(n-1-i), 7, 2*r.Intn(n)
	}
	want := slices.Compact(slices.Sorted(slices.Values(mixed)))
	for _, x := range []struct{ l, want []int }{{rise, rise}, {fall, rise}, {equal, row(7)}, {mixed, want}} {
		if got := sets.Of(x.l...); !slices.Equal(got, x.want) {
			t.Errorf("Of many: %d numbers, want %d", len(got), len(x.want))
		}
	}
	if !sets.Right(rise) || sets.Right(fall) || sets.Right(equal) || sets.Right(append(rise, 0)) {
		t.Error("Right of many is wrong")
	}
}

// P6.2: whether a number is one of a row, be it a set or none.
func TestHas(t *testing.T) {
	numbers := row(least, least+1, -1, 0, 1, 2, 3, greatest-1, greatest)
	ask := func(l []int) {
		t.Helper()
		given := slices.Clone(l)
		for _, n := range numbers {
			if got := sets.Has(l, n); got != slices.Contains(given, n) {
				t.Fatalf("Has(%v, %d) = %t", l, n, got)
			}
		}
		if !slices.Equal(l, given) {
			t.Fatalf("%v was handed in, and is %v", given, l)
		}
	}
	for _, l := range rows(5, 0, 1, 2, 3) {
		ask(l)
	}
	for _, l := range rows(3, numbers...) {
		ask(l)
	}
	ask(nil)
	ask(row())
	r := rand.New(rand.NewSource(63))
	for range 3000 {
		l := drawn(r)
		ask(l)
		for _, n := range append(slices.Clone(l), r.Intn(100), int(r.Uint64())) {
			if got := sets.Has(l, n); got != slices.Contains(l, n) {
				t.Fatalf("Has(%v, %d) = %t", l, n, got)
			}
		}
	}
}

// R3, R4: what Of tells is the caller's, also of a row that is a set already: it shares nothing with that, or with what is told later.
func TestOfIsTheCallers(t *testing.T) {
	for _, l := range [][]int{row(1, 2, 3), row(3, 2, 1), row(1, 2, 2, 3), row(3, 1, 2)} {
		given := slices.Clone(l)
		first, kept := sets.Of(l...), sets.Of(l...)
		overwrite(first)
		if !slices.Equal(l, given) || !slices.Equal(kept, row(1, 2, 3)) || !slices.Equal(sets.Of(l...), kept) {
			t.Errorf("of %v: what was told is written over, and there is %v, %v", given, l, kept)
		}
		overwrite(l)
		if !slices.Equal(kept, row(1, 2, 3)) {
			t.Errorf("of %v: what was handed in is written over, and %v was told", given, kept)
		}
	}
}

// overwrite writes to all of a row, and to what memory lies behind it.
func overwrite(l []int) {
	full := l[:cap(l)]
	for i := range full {
		full[i] = -77
	}
}
