package sets_test

import (
	"math/rand"
	"slices"
	"testing"

	"fleuron/sets"
)

// those are the numbers of the set of both rows for which the promise's words hold.
func those(a, b []int, hold func(n int) bool) []int {
	var all []int
	for _, n := range wantOf(slices.Concat(a, b)) {
		if hold(n) {
			all = append(all, n)
		}
	}
	return all
}

// holdTwo holds all calls of two rows against the promise's words.
func holdTwo(t *testing.T, a, b []int) {
	t.Helper()
	givenA, givenB := slices.Clone(a), slices.Clone(b)
	inA := func(n int) bool { return slices.Contains(givenA, n) }
	inB := func(n int) bool { return slices.Contains(givenB, n) }
	if got, want := sets.Union(a, b), those(a, b, func(n int) bool { return inA(n) || inB(n) }); !slices.Equal(got, want) {
		t.Fatalf("Union(%v, %v) = %v, want %v", a, b, got, want)
	}
	if got, want := sets.Meet(a, b), those(a, b, func(n int) bool { return inA(n) && inB(n) }); !slices.Equal(got, want) {
		t.Fatalf("Meet(%v, %v) = %v, want %v", a, b, got, want)
	}
	if got, want := sets.Minus(a, b), those(a, b, func(n int) bool { return inA(n) && !inB(n) }); !slices.Equal(got, want) {
		t.Fatalf("Minus(%v, %v) = %v, want %v", a, b, got, want)
	}
	sub := true
	for _, n := range a {
		sub = sub && inB(n)
	}
	if got := sets.Sub(a, b); got != sub {
		t.Fatalf("Sub(%v, %v) = %t", a, b, got)
	}
	if !slices.Equal(a, givenA) || !slices.Equal(b, givenB) {
		t.Fatalf("%v and %v were handed in, and are %v and %v", givenA, givenB, a, b)
	}
}

// P6.2: sets that are apart, that have some numbers together, of which one lies in the other one, and that are the same.
func TestTwoSets(t *testing.T) {
	for _, x := range []struct {
		a, b, union, meet, minus []int
		sub                      bool
	}{
		{sub: true},
		{a: row(1, 2), union: row(1, 2), minus: row(1, 2)},
		{b: row(1, 2), union: row(1, 2), sub: true},
		{a: row(1, 3), b: row(2, 4), union: row(1, 2, 3, 4), minus: row(1, 3)},
		{a: row(1, 2), b: row(3, 4), union: row(1, 2, 3, 4), minus: row(1, 2)},
		{a: row(3, 4), b: row(1, 2), union: row(1, 2, 3, 4), minus: row(3, 4)},
		{a: row(1, 2, 3), b: row(2, 3, 4), union: row(1, 2, 3, 4), meet: row(2, 3), minus: row(1)},
		{a: row(2), b: row(1, 2, 3), union: row(1, 2, 3), meet: row(2), sub: true},
		{a: row(1, 2, 3), b: row(2), union: row(1, 2, 3), meet: row(2), minus: row(1, 3)},
		{a: row(1, 2, 3), b: row(1, 2, 3), union: row(1, 2, 3), meet: row(1, 2, 3), sub: true},
		{a: row(least, greatest), b: row(greatest), union: row(least, greatest), meet: row(greatest), minus: row(least)},
		{a: row(least), b: row(least, greatest), union: row(least, greatest), meet: row(least), sub: true},
		{a: row(3, 1, 3), b: row(2, 1, 1), union: row(1, 2, 3), meet: row(1), minus: row(3)},
		{a: row(2, 2), b: row(2), union: row(2), meet: row(2), sub: true},
		{a: row(2), b: row(3, 2), union: row(2, 3), meet: row(2), sub: true},
	} {
		union, meet, minus, sub := sets.Union(x.a, x.b), sets.Meet(x.a, x.b), sets.Minus(x.a, x.b), sets.Sub(x.a, x.b)
		if !slices.Equal(union, x.union) || !slices.Equal(meet, x.meet) || !slices.Equal(minus, x.minus) || sub != x.sub {
			t.Errorf("of %v and %v: %v, %v, %v, %t", x.a, x.b, union, meet, minus, sub)
		}
		holdTwo(t, x.a, x.b)
	}
}

// P6.2: of all pairs of short rows, sets or none, and of many longer ones, what the promise's words say.
func TestTwoOfManyRows(t *testing.T) {
	short := rows(4, 0, 1, 2)
	for _, a := range short {
		for _, b := range short {
			holdTwo(t, a, b)
		}
	}
	far := rows(2, least, least+1, -1, 0, greatest-1, greatest)
	for _, a := range far {
		for _, b := range far {
			holdTwo(t, a, b)
		}
	}
	r := rand.New(rand.NewSource(64))
	for range 3000 {
		a, b := drawn(r), drawn(r)
		holdTwo(t, a, b)
		// One that lies in the other one, and the same numbers in another order.
		holdTwo(t, a, slices.Concat(a, b))
		holdTwo(t, slices.Concat(b, a), a)
		slices.Reverse(b)
		holdTwo(t, slices.Sorted(slices.Values(b)), b)
	}
}

// P6.5: Minus and Meet are apart, and their Union is the first set.
func TestMinusAndMeetAreApart(t *testing.T) {
	r := rand.New(rand.NewSource(65))
	for range 3000 {
		a, b := drawn(r), drawn(r)
		minus, meet := sets.Minus(a, b), sets.Meet(a, b)
		if len(sets.Meet(minus, meet)) != 0 || len(sets.Meet(minus, b)) != 0 || !slices.Equal(sets.Union(minus, meet), sets.Of(a...)) {
			t.Fatalf("of %v and %v: %v and %v", a, b, minus, meet)
		}
		if !sets.Sub(meet, a) || !sets.Sub(meet, b) || !sets.Sub(minus, a) || !sets.Sub(a, sets.Union(b, a)) {
			t.Fatalf("of %v and %v: %v and %v are no parts", a, b, minus, meet)
		}
	}
}

// P1, R5: very many numbers, of sets and of rows that are none.
func TestTwoLongRows(t *testing.T) {
	const n = 1 << 19
	even, odd, all := make([]int, n), make([]int, n), make([]int, 2*n)
	for i := range n {
		even[i], odd[i] = 2*i, 2*i+1
	}
	for i := range all {
		all[i] = i
	}
	fall := slices.Clone(all)
	slices.Reverse(fall)
	if !slices.Equal(sets.Union(even, odd), all) || !slices.Equal(sets.Meet(fall, odd), odd) || !slices.Equal(sets.Minus(fall, odd), even) {
		t.Error("many numbers are wrong")
	}
	if !sets.Sub(even, fall) || !sets.Sub(fall, all) || sets.Sub(all, even) || sets.Has(even, 2*n-1) || !sets.Has(fall, 0) {
		t.Error("of many numbers wrong things are told")
	}
}

// R3, R4: what is told is the caller's, also where it is one of the rows that were handed in.
func TestTwoAreTheCallers(t *testing.T) {
	calls := []func(a, b []int) []int{sets.Union, sets.Meet, sets.Minus}
	for _, a := range [][]int{row(1, 2, 5), row(5, 2, 1), nil} {
		for _, b := range [][]int{row(1, 2, 5), row(2, 9), row(9, 2), nil} {
			// Memory behind what is handed in is the caller's, too.
			wideA, wideB := append(slices.Clone(a), 8, 9)[:len(a)], append(slices.Clone(b), 8, 9)[:len(b)]
			for i, call := range calls {
				kept := call(wideA, wideB)
				want := slices.Clone(kept)
				overwrite(call(wideA, wideB))
				if !slices.Equal(wideA[:cap(wideA)][:len(a)+2], append(slices.Clone(a), 8, 9)) || !slices.Equal(wideB[:cap(wideB)][:len(b)+2], append(slices.Clone(b), 8, 9)) {
					t.Errorf("call %d of %v and %v: what was told is written over, and there is %v, %v", i, a, b, wideA, wideB)
				}
				if !slices.Equal(kept, want) || !slices.Equal(call(wideA, wideB), want) {
					t.Errorf("call %d of %v and %v: %v was told, and is %v", i, a, b, want, kept)
				}
				ownA, ownB := slices.Clone(a), slices.Clone(b)
				kept = call(ownA, ownB)
				overwrite(ownA)
				overwrite(ownB)
				if !slices.Equal(kept, want) {
					t.Errorf("call %d of %v and %v: what was handed in is written over, and %v was told", i, a, b, kept)
				}
			}
		}
	}
}
