package sets_test

import (
	"math/rand"
	"slices"
	"testing"

	"fleuron/sets"
)

// wantPartition is what P6.4 says, by its words: each number is held against all ahead of it.
func wantPartition(n int, l ...[]int) []int {
	if n < 1 || n > 65536 {
		return nil
	}
	alike := func(a, b int) bool {
		for _, set := range l {
			if slices.Contains(set, a) != slices.Contains(set, b) {
				return false
			}
		}
		return true
	}
	classes := make([]int, n)
	next := 0
number:
	for i := range n {
		for j := range i {
			if alike(i, j) {
				classes[i] = classes[j]
				continue number
			}
		}
		classes[i] = next
		next++
	}
	return classes
}

// holdPartition holds Partition against what is wanted.
func holdPartition(t *testing.T, want []int, n int, l ...[]int) {
	t.Helper()
	given := make([][]int, len(l))
	for i := range l {
		given[i] = slices.Clone(l[i])
	}
	if got := sets.Partition(n, l...); !slices.Equal(got, want) {
		t.Fatalf("Partition(%d, %v) = %v, want %v", n, l, got, want)
	}
	if !slices.EqualFunc(l, given, slices.Equal[[]int]) {
		t.Fatalf("%v were handed in, and are %v", given, l)
	}
}

// P6.4: by no set, by one and by several; sets that stand twice, of all numbers and of none, with numbers that are too low or too high, and rows that are no sets.
func TestPartition(t *testing.T) {
	for _, x := range []struct {
		n    int
		sets [][]int
		want []int
	}{
		{5, [][]int{{1, 2}, {2, 3}}, row(0, 1, 2, 3, 0)},
		{1, nil, row(0)},
		{1, [][]int{{0}}, row(0)},
		{1, [][]int{{1}}, row(0)},
		{4, nil, row(0, 0, 0, 0)},
		{4, [][]int{}, row(0, 0, 0, 0)},
		{4, [][]int{nil}, row(0, 0, 0, 0)},
		{4, [][]int{nil, {}, nil}, row(0, 0, 0, 0)},
		{4, [][]int{{0, 1, 2, 3}}, row(0, 0, 0, 0)},
		{4, [][]int{{1, 2}}, row(0, 1, 1, 0)},
		{4, [][]int{{0, 3}}, row(0, 1, 1, 0)},
		{4, [][]int{{0, 1}}, row(0, 0, 1, 1)},
		{4, [][]int{{2, 3}}, row(0, 0, 1, 1)},
		{4, [][]int{{3}}, row(0, 0, 0, 1)},
		{4, [][]int{{1, 2}, {1, 2}}, row(0, 1, 1, 0)},
		{4, [][]int{{1, 2}, {0, 3}}, row(0, 1, 1, 0)},
		{4, [][]int{{1, 2}, nil, {0, 1, 2, 3}}, row(0, 1, 1, 0)},
		{4, [][]int{{0}, {1}, {2}, {3}}, row(0, 1, 2, 3)},
		{4, [][]int{{3}, {2}, {1}, {0}}, row(0, 1, 2, 3)},
		{4, [][]int{{3}, {1}}, row(0, 1, 0, 2)},
		{4, [][]int{{0, 1}, {1, 2}, {2, 3}}, row(0, 1, 2, 3)},
		{4, [][]int{{0, 1, 2}, {1, 2}, {2}}, row(0, 1, 2, 3)},
		{4, [][]int{{-1, 1}, {1, 4}, {1, 5, greatest}, {least, -2, 1}}, row(0, 1, 0, 0)},
		{4, [][]int{{-1}, {4}, {least, greatest}, {-4, -3, -2, -1, 4, 5}}, row(0, 0, 0, 0)},
		{4, [][]int{{2, 2, 1}}, row(0, 1, 1, 0)},
		{4, [][]int{{1, 1}, {1, 1, 1}, {1}}, row(0, 1, 0, 0)},
		{4, [][]int{{3, 0, 3, -1, 0, 4}, {1, 1, 0}}, row(0, 1, 2, 3)},
	} {
		holdPartition(t, x.want, x.n, x.sets...)
	}
}

// P6.4: nothing of an n that is not 1 to 65536, whatever the sets.
func TestPartitionOfWrongNumbers(t *testing.T) {
	for _, n := range row(0, -1, -2, -65536, least, least+1, 65537, 65538, 1<<17, 1<<32, 1<<32+1, greatest) {
		for _, l := range [][][]int{nil, {{0}}, {{1, 2}, {2, 3}}, {nil}} {
			holdPartition(t, nil, n, l...)
		}
	}
}

// P6.4: of all short rows, and of many longer ones, what the promise's words say.
func TestPartitionOfManyRows(t *testing.T) {
	short := rows(3, -1, 0, 1, 2, 3)
	for _, a := range short {
		for _, b := range short {
			for n := 1; n < 5; n++ {
				holdPartition(t, wantPartition(n, a, b), n, a, b)
			}
		}
	}
	r := rand.New(rand.NewSource(67))
	for range 1500 {
		l := make([][]int, r.Intn(8))
		for i := range l {
			l[i] = drawn(r)
		}
		n := 1 + r.Intn(60)
		holdPartition(t, wantPartition(n, l...), n, l...)
	}
}

// P6.4: that a row is a set or none, and in which order the sets stand, plays no part.
func TestPartitionByRowsOfTheSameNumbers(t *testing.T) {
	r := rand.New(rand.NewSource(68))
	for range 1500 {
		l := make([][]int, r.Intn(6))
		other := make([][]int, len(l))
		for i, at := range r.Perm(len(l)) {
			l[i] = drawn(r)
			other[at] = sets.Of(l[i]...)
		}
		n := 1 + r.Intn(40)
		holdPartition(t, sets.Partition(n, other...), n, l...)
	}
}

// P6.5: with one more set a partition is as fine, or finer: what was apart stays apart.
func TestPartitionByOneMore(t *testing.T) {
	r := rand.New(rand.NewSource(69))
	for range 1500 {
		l := make([][]int, 1+r.Intn(6))
		for i := range l {
			l[i] = drawn(r)
		}
		n := 1 + r.Intn(40)
		fewer, more := sets.Partition(n, l[1:]...), sets.Partition(n, l...)
		for i := range n {
			for j := range i {
				if fewer[i] != fewer[j] && more[i] == more[j] {
					t.Fatalf("Partition(%d, %v): %d and %d are together, without the first set they are apart", n, l, i, j)
				}
			}
		}
	}
}

// P1, R5: most numbers, very long rows, and very many of them.
func TestPartitionOfMuch(t *testing.T) {
	const n = 65536
	want, bits, alone := make([]int, n), make([][]int, 16), make([][]int, n)
	for i := range n {
		want[i] = i
		alone[i] = row(n - 1 - i)
		for bit := range bits {
			if i>>bit&1 == 1 {
				bits[bit] = append(bits[bit], i)
			}
		}
	}
	for _, l := range [][][]int{bits, alone, append(slices.Clone(bits), bits...), {}} {
		got := sets.Partition(n, l...)
		if len(l) == 0 {
			want = make([]int, n)
		}
		if !slices.Equal(got, want) {
			t.Errorf("classes of %d by %d sets are wrong", n, len(l))
		}
	}
	long := make([]int, 1<<20)
	for i := range long {
		long[i] = i%3 - 1
	}
	holdLong := [][]int{long, long, {0, 2, greatest}}
	if got := sets.Partition(4, holdLong...); !slices.Equal(got, row(0, 1, 2, 3)) {
		t.Errorf("by long rows: %v", got)
	}
	if got := sets.Partition(3, make([][]int, 1<<20)...); !slices.Equal(got, row(0, 0, 0)) {
		t.Errorf("by many rows: %v", got)
	}
}

// R3, R4: classes are the caller's, and are told again as they were.
func TestPartitionIsTheCallers(t *testing.T) {
	l := [][]int{{1, 2}, {3, 2, 3}}
	kept, want := sets.Partition(5, l...), row(0, 1, 2, 3, 0)
	overwrite(sets.Partition(5, l...))
	holdPartition(t, want, 5, l...)
	overwrite(l[0])
	overwrite(l[1])
	if !slices.Equal(kept, want) {
		t.Errorf("what was told is %v", kept)
	}
}
