package outline_test

import (
	"slices"
	"testing"

	"fleuron/api"
	"fleuron/outline"
)

// told are the contours that are told, one by one; their numbers must be theirs.
func told(t *testing.T, o api.Outline) [][]api.Point {
	t.Helper()
	var all [][]api.Point
	for number, contour := range outline.Contours(o) {
		if number != len(all) {
			t.Errorf("Contours(%v): number %d is told as %d", o, len(all), number)
		}
		all = append(all, contour)
	}
	return all
}

// equal tells whether two rows of contours are the same.
func equal(a, b [][]api.Point) bool {
	return slices.EqualFunc(a, b, slices.Equal[[]api.Point])
}

// P3.2: from behind the End ahead up to the End itself, in order.
func TestContoursAreCutBehindTheirEnds(t *testing.T) {
	p := rows(6)
	for _, x := range []struct {
		ends []int
		want [][]api.Point
	}{
		{[]int{5}, [][]api.Point{p}},
		{[]int{1, 5}, [][]api.Point{p[:2], p[2:]}},
		{[]int{0, 1, 4, 5}, [][]api.Point{p[:1], p[1:2], p[2:5], p[5:]}},
		{[]int{0}, [][]api.Point{p[:1]}},
		{[]int{3}, [][]api.Point{p[:4]}},
		{[]int{1, 3, 5, 7}, [][]api.Point{p[:2], p[2:4], p[4:]}},
		{nil, nil},
		{[]int{}, nil},
	} {
		if got := told(t, of(p, x.ends...)); !equal(got, x.want) {
			t.Errorf("Contours of %v = %v", x.ends, got)
		}
	}
	for _, o := range []api.Outline{{}, of(nil, 0), of(nil, -1), of(nil, 1, 2)} {
		if got := told(t, o); len(got) != 0 {
			t.Errorf("Contours(%v) = %v", o, got)
		}
	}
}

// P3.2: from an End on that falls, stands still, or is no point's number, there is nothing more.
func TestContoursEndAtAWrongEnd(t *testing.T) {
	for _, x := range wrongEnds() {
		if got := told(t, of(rows(10), x.ends...)); len(got) != x.want {
			t.Errorf("Contours of %v: %d, want %d", x.ends, len(got), x.want)
		}
	}
}

// P3.2: of outlines of all kinds, what the promise's words say; of those that may not be, too.
func TestContoursOfManyOutlines(t *testing.T) {
	for _, o := range outlines() {
		if got := told(t, o); !equal(got, contours(o)) {
			t.Errorf("Contours(%v) = %v", o, got)
		}
	}
	many := of(rows(3000))
	for i := range 1500 {
		many.Ends = append(many.Ends, 2*i+1)
	}
	if got := told(t, many); len(got) != 1500 || !equal(got, contours(many)) {
		t.Errorf("%d contours of 1500", len(got))
	}
}

// R1: contours may be left off anywhere, and gone over again, also within each other.
func TestContoursAreLeftOffAndGoneOverAgain(t *testing.T) {
	o := of(rows(10), 1, 4, 9)
	want := contours(o)
	all := outline.Contours(o)
	for leave := range 3 {
		seen := 0
		for number, contour := range all {
			if number != seen || !slices.Equal(contour, want[number]) {
				t.Errorf("left off behind %d: %d is %v", leave, number, contour)
			}
			seen++
			if number == leave {
				break
			}
		}
		if seen != leave+1 {
			t.Errorf("left off behind %d: %d are told", leave, seen)
		}
	}
	count := 0
	for a := range all {
		for b, contour := range all {
			if !slices.Equal(contour, want[b]) {
				t.Errorf("within %d: %d is %v", a, b, contour)
			}
			count++
		}
	}
	if count != 9 {
		t.Errorf("%d within each other", count)
	}
	if nothing := outline.Contours(api.Outline{}); nothing == nil {
		t.Error("of nothing there is no sequence")
	}
}

// R3: who writes to a contour, or behind it, writes to no other one, to nothing that was handed in, and to nothing that is told again.
func TestContoursAreTheCallers(t *testing.T) {
	o := of(rows(10), 1, 4, 9)
	want := contours(o)
	all := outline.Contours(o)
	for range 2 {
		for number, contour := range all {
			if !slices.Equal(contour, want[number]) {
				t.Errorf("%d is %v", number, contour)
			}
			_ = append(contour, api.Point{X: 55}, api.Point{X: 66})
			for i := range contour {
				contour[i] = api.Point{X: 77}
			}
		}
	}
	if !same(o, of(rows(10), 1, 4, 9)) {
		t.Errorf("handed in: %v", o)
	}
	// What is kept is not what was handed in.
	o.Points[0], o.Ends[0] = api.Point{X: 88}, 3
	for number, contour := range all {
		if !slices.Equal(contour, want[number]) {
			t.Errorf("written over: %d is %v", number, contour)
		}
	}
}
