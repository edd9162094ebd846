package sets_test

import (
	"iter"
	"math/rand"
	"slices"
	"testing"

	"fleuron/sets"
)

// pairs are all that a sequence tells.
func pairs(seq iter.Seq2[int, int]) [][2]int {
	var all [][2]int
	for first, last := range seq {
		all = append(all, [2]int{first, last})
	}
	return all
}

// wantRanges is what P6.3 says, by its words: pairs of the row's numbers that hold, rising.
func wantRanges(l []int) [][2]int {
	has := map[int]bool{}
	for _, n := range l {
		has[n] = true
	}
	var all [][2]int
	for _, first := range wantOf(l) {
		if first != least && has[first-1] {
			continue
		}
		last := first
		for last != greatest && has[last+1] {
			last++
		}
		all = append(all, [2]int{first, last})
	}
	return all
}

// holdRanges holds Ranges against what is wanted.
func holdRanges(t *testing.T, l []int, want [][2]int) {
	t.Helper()
	given := slices.Clone(l)
	seq := sets.Ranges(l)
	if seq == nil {
		t.Fatalf("Ranges(%v) is no sequence", l)
	}
	for range 2 {
		if got := pairs(seq); !slices.Equal(got, want) {
			t.Fatalf("Ranges(%v) = %v, want %v", l, got, want)
		}
	}
	if !slices.Equal(l, given) {
		t.Fatalf("%v was handed in, and is %v", given, l)
	}
}

// P6.3: ranges of one number and of several, next to each other and apart, at the ends of all numbers, of sets and of rows that are none.
func TestRanges(t *testing.T) {
	for _, x := range []struct {
		l    []int
		want [][2]int
	}{
		{nil, nil},
		{row(), nil},
		{row(1, 2, 3, 7), [][2]int{{1, 3}, {7, 7}}},
		{row(0), [][2]int{{0, 0}}},
		{row(5, 6), [][2]int{{5, 6}}},
		{row(5, 7), [][2]int{{5, 5}, {7, 7}}},
		{row(1, 2, 4, 5, 7, 8), [][2]int{{1, 2}, {4, 5}, {7, 8}}},
		{row(1, 3, 5), [][2]int{{1, 1}, {3, 3}, {5, 5}}},
		{row(-2, -1, 0, 1, 2), [][2]int{{-2, 2}}},
		{row(-3, -1, 1), [][2]int{{-3, -3}, {-1, -1}, {1, 1}}},
		{row(3, 2, 1), [][2]int{{1, 3}}},
		{row(7, 1, 3, 2, 7), [][2]int{{1, 3}, {7, 7}}},
		{row(4, 4, 4), [][2]int{{4, 4}}},
		{row(4, 4, 5, 5), [][2]int{{4, 5}}},
		{row(least), [][2]int{{least, least}}},
		{row(greatest), [][2]int{{greatest, greatest}}},
		{row(least, greatest), [][2]int{{least, least}, {greatest, greatest}}},
		{row(greatest, least), [][2]int{{least, least}, {greatest, greatest}}},
		{row(least, least+1), [][2]int{{least, least + 1}}},
		{row(greatest-1, greatest), [][2]int{{greatest - 1, greatest}}},
		{row(least, least+2, greatest-2, greatest), [][2]int{{least, least}, {least + 2, least + 2}, {greatest - 2, greatest - 2}, {greatest, greatest}}},
		{row(greatest, greatest-1, least+1, least), [][2]int{{least, least + 1}, {greatest - 1, greatest}}},
	} {
		holdRanges(t, x.l, x.want)
	}
}

// P6.3: of all short rows, and of many longer ones, what the promise's words say.
func TestRangesOfManyRows(t *testing.T) {
	for _, l := range rows(5, 0, 1, 2, 3, 4) {
		holdRanges(t, l, wantRanges(l))
	}
	for _, l := range rows(4, least, least+1, least+2, greatest-2, greatest-1, greatest) {
		holdRanges(t, l, wantRanges(l))
	}
	r := rand.New(rand.NewSource(66))
	for range 5000 {
		l := drawn(r)
		holdRanges(t, l, wantRanges(l))
	}
}

// P1, R5: very many numbers, in one range, and in ranges of their own.
func TestRangesOfLongRows(t *testing.T) {
	const n = 1 << 20
	together, apart := make([]int, n), make([]int, n)
	for i := range n {
		together[i], apart[i] = n-i, 2*i
	}
	holdRanges(t, together, [][2]int{{1, n}})
	if got := pairs(sets.Ranges(apart)); len(got) != n || got[n-1] != [2]int{2*n - 2, 2*n - 2} {
		t.Errorf("%d ranges of many", len(got))
	}
}

// R1: ranges may be left off anywhere, and gone over again, also within each other.
func TestRangesAreLeftOffAndGoneOverAgain(t *testing.T) {
	l := row(1, 2, 4, 6, 7)
	want := wantRanges(l)
	seq := sets.Ranges(l)
	for leave := range 3 {
		var got [][2]int
		for first, last := range seq {
			got = append(got, [2]int{first, last})
			if len(got) == leave+1 {
				break
			}
		}
		if !slices.Equal(got, want[:leave+1]) {
			t.Errorf("left off behind %d: %v", leave, got)
		}
		if again := pairs(seq); !slices.Equal(again, want) {
			t.Errorf("again: %v", again)
		}
	}
	for first, last := range seq {
		if got := pairs(seq); !slices.Equal(got, want) {
			t.Errorf("within %d, %d: %v", first, last, got)
		}
	}
	for range sets.Ranges(nil) {
		t.Error("there is a range of nothing")
	}
}

// P6.3, R3: the ranges are those of the row as it was, though it is written to later, ahead of going over them or in between.
func TestRangesOfARowThatIsWrittenTo(t *testing.T) {
	for _, l := range [][]int{row(1, 2, 4, 6), row(6, 4, 1, 2), row(1, 1, 2, 4, 6)} {
		own := slices.Clone(l)
		seq := sets.Ranges(own)
		want := [][2]int{{1, 2}, {4, 4}, {6, 6}}
		overwrite(own)
		if got := pairs(seq); !slices.Equal(got, want) {
			t.Errorf("Ranges(%v), written over, are %v", l, got)
		}
		copy(own, l)
		seq = sets.Ranges(own)
		var got [][2]int
		for first, last := range seq {
			got = append(got, [2]int{first, last})
			overwrite(own)
		}
		if !slices.Equal(got, want) || !slices.Equal(pairs(seq), want) {
			t.Errorf("Ranges(%v), written over in between, are %v", l, got)
		}
	}
}
