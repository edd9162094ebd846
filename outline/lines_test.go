package outline_test

import (
	"math/big"
	"slices"
	"testing"

	"fleuron/api"
	"fleuron/outline"
)

// grid are an outline's points on the grid, and whether they are on the curve.
func grid(o api.Outline) ([]api.Pt, []bool) {
	var pts []api.Pt
	var on []bool
	for _, p := range o.Points {
		pts, on = append(pts, api.Pt{X: p.X, Y: p.Y}), append(on, p.On)
	}
	return pts, on
}

// lines are Lines of an outline.
func lines(o api.Outline) [][]api.Pt {
	pts, on := grid(o)
	return outline.Lines(pts, on, o.Ends)
}

// equalRows tells whether two rows of rows are the same.
func equalRows(a, b [][]api.Pt) bool {
	return slices.EqualFunc(a, b, slices.Equal[[]api.Pt])
}

// lowered is a number by 2 to the power of bits, cut down to the next lower whole number, once it has gone round.
func lowered(n *big.Int, bits uint) int {
	return goesRound(new(big.Int).Rsh(exact(goesRound(n)), bits))
}

// row is what P3.5 says of one contour, by its words, in exact numbers.
func row(contour []api.Point) []api.Pt {
	middle := func(a, b api.Point) api.Point {
		return api.Point{X: lowered(sum(exact(a.X), exact(b.X)), 1), Y: lowered(sum(exact(a.Y), exact(b.Y)), 1), On: true}
	}
	// The contour is turned till what the row begins with is ahead.
	first := slices.IndexFunc(contour, func(p api.Point) bool { return p.On })
	var turned []api.Point
	if first >= 0 {
		turned = append(append(turned, contour[first:]...), contour[:first]...)
	} else {
		turned = append(append(turned, middle(contour[len(contour)-1], contour[0])), contour...)
	}
	var ring []api.Point
	for i, p := range turned {
		if i > 0 && !p.On && !turned[i-1].On {
			ring = append(ring, middle(turned[i-1], p))
		}
		ring = append(ring, p)
	}
	ring = append(ring, turned[0])
	curve := func(n, a, c, b int) int {
		return lowered(sum(product(8-n, 8-n, a), product(2, n, 8-n, c), product(n, n, b), exact(32)), 6)
	}
	var told []api.Pt
	for i, p := range ring {
		switch {
		case i == 0 || p.On && ring[i-1].On:
			told = append(told, api.Pt{X: p.X, Y: p.Y})
		case p.On:
			a, c := ring[i-2], ring[i-1]
			for n := 1; n <= 8; n++ {
				told = append(told, api.Pt{X: curve(n, a.X, c.X, p.X), Y: curve(n, a.Y, c.Y, p.Y)})
			}
		}
	}
	return told[:len(told)-1]
}

// path is a row of points, each by its X and its Y.
func path(numbers ...int) []api.Pt {
	var row []api.Pt
	for i := 0; i < len(numbers); i += 2 {
		row = append(row, api.Pt{X: numbers[i], Y: numbers[i+1]})
	}
	return row
}

// P3.5: rows of points on the curve and off it, of contours without any on it, and of just one point.
func TestLinesGoRoundEachContour(t *testing.T) {
	on := func(x, y int) api.Point { return api.Point{X: x, Y: y, On: true} }
	off := func(x, y int) api.Point { return api.Point{X: x, Y: y} }
	for name, x := range map[string]struct {
		o    api.Outline
		want [][]api.Pt
	}{
		"a curve, and a line": {
			of([]api.Point{on(0, 0), off(64, 0), on(64, 64)}, 2),
			[][]api.Pt{path(0, 0, 15, 1, 28, 4, 39, 9, 48, 16, 55, 25, 60, 36, 63, 49, 64, 64)},
		},
		"a line, and a curve that closes it": {
			of([]api.Point{on(64, 64), on(0, 0), off(64, 0)}, 2),
			[][]api.Pt{path(64, 64, 0, 0, 15, 1, 28, 4, 39, 9, 48, 16, 55, 25, 60, 36, 63, 49)},
		},
		"the first one is off": {
			of([]api.Point{off(64, 0), on(64, 64), on(0, 0)}, 2),
			[][]api.Pt{path(64, 64, 0, 0, 15, 1, 28, 4, 39, 9, 48, 16, 55, 25, 60, 36, 63, 49)},
		},
		"lines alone": {
			of([]api.Point{on(3, 4), on(-5, 6), on(7, -8)}, 2),
			[][]api.Pt{path(3, 4, -5, 6, 7, -8)},
		},
		"two points at one place": {
			of([]api.Point{on(3, 4), on(3, 4)}, 1),
			[][]api.Pt{path(3, 4, 3, 4)},
		},
		"one point on the curve": {
			of([]api.Point{on(-9, 11)}, 0),
			[][]api.Pt{path(-9, 11)},
		},
		"one point off the curve": {
			of([]api.Point{off(-9, 11)}, 0),
			[][]api.Pt{path(-9, 11, -9, 11, -9, 11, -9, 11, -9, 11, -9, 11, -9, 11, -9, 11)},
		},
		"one on the curve, and one off it": {
			of([]api.Point{on(0, 0), off(64, 32)}, 1),
			[][]api.Pt{path(0, 0, 14, 7, 24, 12, 30, 15, 32, 16, 30, 15, 24, 12, 14, 7)},
		},
		"two off the curve": {
			of([]api.Point{off(0, 0), off(64, -64)}, 1),
			[][]api.Pt{path(
				32, -32, 25, -25, 20, -20, 17, -17, 16, -16, 17, -17, 20, -20, 25, -25,
				32, -32, 39, -39, 44, -44, 47, -47, 48, -48, 47, -47, 44, -44, 39, -39,
			)},
		},
		"several contours": {
			of([]api.Point{on(1, 1), on(2, 2), on(3, 3), on(4, 4), on(5, 5)}, 1, 2, 4),
			[][]api.Pt{path(1, 1, 2, 2), path(3, 3), path(4, 4, 5, 5)},
		},
		"points in no contour": {
			of([]api.Point{on(1, 1), on(2, 2), on(3, 3)}, 1),
			[][]api.Pt{path(1, 1, 2, 2)},
		},
	} {
		if got := lines(x.o); !equalRows(got, x.want) {
			t.Errorf("%s: %v, want %v", name, got, x.want)
		}
		for i, contour := range contours(x.o) {
			if want := row(contour); !slices.Equal(want, x.want[i]) {
				t.Errorf("%s: by the words of the promise %v, want %v", name, want, x.want[i])
			}
		}
	}
}

// P3.5: sums that are halved or divided are cut down, below 0 as well.
func TestLinesCutDown(t *testing.T) {
	off := func(x, y int) api.Point { return api.Point{X: x, Y: y} }
	for _, x := range []struct {
		a, b  api.Point
		first api.Pt // between both, where the row begins
	}{
		{off(1, 3), off(2, 4), api.Pt{X: 1, Y: 3}},
		{off(-1, -3), off(-2, -4), api.Pt{X: -2, Y: -4}},
		{off(-1, 0), off(0, -1), api.Pt{X: -1, Y: -1}},
		{off(-5, 5), off(4, -4), api.Pt{X: -1, Y: 0}},
		{off(most, least), off(1, -1), api.Pt{X: least / 2, Y: most / 2}},
		{off(most, least), off(most, least), api.Pt{X: -1, Y: 0}},
	} {
		if got := lines(of([]api.Point{x.a, x.b}, 1)); len(got) != 1 || len(got[0]) != 16 || got[0][0] != x.first {
			t.Errorf("between %v and %v: %v, want %v", x.a, x.b, got, x.first)
		}
	}
	for _, x := range []struct {
		at   int
		want []int // X along a curve from 0 to itself, by at
	}{
		{1, []int{0, 0, 0, 0, 1, 0, 0, 0}},
		{-1, []int{0, 0, 0, 0, 0, 0, 0, 0}},
		{2, []int{0, 0, 1, 1, 1, 1, 1, 0}},
		{-2, []int{0, 0, -1, -1, -1, -1, -1, 0}},
		{64, []int{0, 14, 24, 30, 32, 30, 24, 14}},
		{-64, []int{0, -14, -24, -30, -32, -30, -24, -14}},
		{-3, []int{0, -1, -1, -1, -1, -1, -1, -1}},
		{3, []int{0, 1, 1, 1, 2, 1, 1, 1}},
	} {
		got := lines(of([]api.Point{{On: true}, {X: x.at, Y: -x.at}}, 1))
		var along []int
		for _, p := range slices.Concat(got...) {
			along = append(along, p.X)
		}
		if !slices.Equal(along, x.want) {
			t.Errorf("by %d: %v, want %v", x.at, along, x.want)
		}
	}
}

// P3.5: of outlines of all kinds, what the promise's words say: with wrong Ends, and with sums that go round, too.
func TestLinesOfManyOutlines(t *testing.T) {
	for _, o := range append(outlines(), drawn(3000)...) {
		var want [][]api.Pt
		for _, contour := range contours(o) {
			want = append(want, row(contour))
		}
		if got := lines(o); !equalRows(got, want) {
			t.Fatalf("Lines of %v = %v, want %v", o, got, want)
		}
	}
}

// P3.5: each way in which up to six points are on the curve and off it.
func TestLinesOfAllWaysToBeOn(t *testing.T) {
	for n := 1; n <= 6; n++ {
		for ways := range 1 << n {
			o := of(rows(n), n-1)
			for i := range o.Points {
				o.Points[i] = api.Point{X: i * i * 37, Y: i*-91 + 5, On: ways>>i&1 == 1}
			}
			if got := lines(o); len(got) != 1 || !slices.Equal(got[0], row(o.Points)) {
				t.Errorf("Lines of %v = %v", o, got)
			}
		}
	}
}

// P3.5: a contour's last point closes the row, whatever came to: it is left out, also where it is not the first one.
func TestWhatClosesARowIsNotTold(t *testing.T) {
	// The last point of the curve back to the first one goes round: 64 times its X is more than 64 bits.
	far := []api.Point{{X: most, Y: 1, On: true}, {X: 3, Y: 2}}
	got := lines(of(far, 1))
	if len(got) != 1 || len(got[0]) != 8 || got[0][0] != (api.Pt{X: most, Y: 1}) || !slices.Equal(got[0], row(far)) {
		t.Errorf("%v", got)
	}
}

// P3.5: there is nothing, if there are not as many on as pts.
func TestLinesNeedAnOnForEachPoint(t *testing.T) {
	pts, on := grid(of(square(0, 0, 64)))
	for _, x := range []struct {
		pts []api.Pt
		on  []bool
	}{
		{pts, nil}, {pts, on[:1]}, {pts, on[:3]}, {pts, append(on[:4:4], true)}, {pts, append(on[:4:4], on...)},
		{pts[:3], on}, {pts[:1], on}, {nil, on}, {nil, on[:1]},
	} {
		for _, ends := range [][]int{nil, {0}, {2}, {3}, {1, 3}} {
			if got := outline.Lines(x.pts, x.on, ends); len(got) != 0 {
				t.Errorf("%d points, %d on, Ends %v: %v", len(x.pts), len(x.on), ends, got)
			}
		}
	}
	if got := outline.Lines(pts, on, []int{3}); len(got) != 1 {
		t.Errorf("as many: %v", got)
	}
	if got := outline.Lines(nil, nil, []int{0}); len(got) != 0 {
		t.Errorf("of nothing: %v", got)
	}
}

// P3.5: behind a wrong End there are no rows.
func TestLinesEndAtAWrongEnd(t *testing.T) {
	for _, x := range wrongEnds() {
		if got := lines(of(rows(10), x.ends...)); len(got) != x.want {
			t.Errorf("Ends %v: %d rows, want %d", x.ends, len(got), x.want)
		}
	}
}

// P3.6: lines move with their points.
func TestLinesMoveWithTheirPoints(t *testing.T) {
	for _, o := range near() {
		for _, by := range [][2]int{{0, 0}, {2, -6}, {128, 64}, {-7, 9}, {-1, 0}} {
			want := lines(o)
			for _, row := range want {
				for i := range row {
					row[i].X += by[0]
					row[i].Y += by[1]
				}
			}
			if got := lines(outline.Moved(o, by[0], by[1])); !equalRows(got, want) {
				t.Errorf("%v moved by %v: %v, want %v", o, by, got, want)
			}
		}
	}
}

// P3.6: lines lie in the box of their points.
func TestLinesLieInTheirBox(t *testing.T) {
	for _, o := range near() {
		low, high, _ := outline.Box(o)
		for _, p := range slices.Concat(lines(o)...) {
			if p.X < low.X || p.X > high.X || p.Y < low.Y || p.Y > high.Y {
				t.Errorf("%v: %v is not from %v to %v", o, p, low, high)
			}
		}
	}
}

// P3.6: lines go the other way round, if the contour does; where the contour begins off the curve, from elsewhere on.
func TestLinesGoTheOtherWayRound(t *testing.T) {
	for _, o := range near() {
		want, got := lines(o), lines(outline.Reversed(o))
		for i, contour := range contours(o) {
			slices.Reverse(want[i][1:])
			if contour[0].On && !slices.Equal(got[i], want[i]) || !sameRound(got[i], want[i]) {
				t.Errorf("%v, contour %d: %v, want %v", o, i, got[i], want[i])
			}
		}
	}
}

// sameRound tells whether two rows go the same way round, wherever they begin.
func sameRound(a, b []api.Pt) bool {
	for i := range b {
		if slices.Equal(a, slices.Concat(b[i:], b[:i])) {
			return true
		}
	}
	return false
}

// near are outlines whose sums don't go round.
func near() []api.Outline {
	return slices.DeleteFunc(outlines(), func(o api.Outline) bool {
		return slices.ContainsFunc(o.Points, func(p api.Point) bool { return max(p.X, -p.X, p.Y, -p.Y) > 1<<40 || min(p.X, p.Y) == least })
	})
}

// R3: what is handed in stays as it is; rows share nothing with it, with each other, or with those of another call.
func TestLinesAreTheCallers(t *testing.T) {
	o := of(append(square(0, 0, 64), square(9, 9, 7)...), 3, 7)
	o.Points[1].On, o.Points[6].On = false, false
	pts, on := grid(o)
	ends := slices.Clone(o.Ends)
	got, again := outline.Lines(pts, on, ends), outline.Lines(pts, on, ends)
	want := [][]api.Pt{row(o.Points[:4]), row(o.Points[4:])}
	_ = append(got[0], api.Pt{X: 55})
	for i := range got[0] {
		got[0][i] = api.Pt{X: 77}
	}
	if !slices.Equal(got[1], want[1]) || !equalRows(again, want) {
		t.Errorf("%v, again %v", got, again)
	}
	wantPts, wantOn := grid(o)
	if !slices.Equal(pts, wantPts) || !slices.Equal(on, wantOn) || !slices.Equal(ends, o.Ends) {
		t.Errorf("handed in: %v, %v, %v", pts, on, ends)
	}
}
