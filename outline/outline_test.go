package outline_test

import (
	"math"
	"math/big"
	"math/rand"
	"slices"
	"testing"

	"fleuron/api"
	"fleuron/outline"
)

const (
	most  = math.MaxInt
	least = math.MinInt
)

// rows are so many points that are on the curve, apart from each other.
func rows(n int) []api.Point {
	points := make([]api.Point, n)
	for i := range points {
		points[i] = api.Point{X: i % 20, Y: i / 20, On: true}
	}
	return points
}

// pairs are Ends of so many contours of two points each.
func pairs(n int) []int {
	var ends []int
	for i := range n {
		ends = append(ends, 2*i+1)
	}
	return ends
}

// square is a contour of four points, to the right and above of a place.
func square(x, y, side int) []api.Point {
	return []api.Point{{X: x, Y: y, On: true}, {X: x + side, Y: y, On: true}, {X: x + side, Y: y + side, On: true}, {X: x, Y: y + side, On: true}}
}

// of is an outline of points, and Ends.
func of(points []api.Point, ends ...int) api.Outline {
	return api.Outline{Points: points, Ends: ends}
}

// same tells whether two outlines have the same points, and Ends.
func same(a, b api.Outline) bool {
	return slices.Equal(a.Points, b.Points) && slices.Equal(a.Ends, b.Ends)
}

// twin is the same outline in other memory, to hold the first one against.
func twin(o api.Outline) api.Outline {
	return api.Outline{Points: append([]api.Point{}, o.Points...), Ends: append([]int{}, o.Ends...)}
}

// goesRound is what an exact number is in 64 bits.
func goesRound(n *big.Int) int {
	return int(new(big.Int).And(n, new(big.Int).SetUint64(math.MaxUint64)).Uint64())
}

func exact(n int) *big.Int {
	return big.NewInt(int64(n))
}

// product is the exact one of some numbers.
func product(all ...int) *big.Int {
	p := big.NewInt(1)
	for _, n := range all {
		p.Mul(p, exact(n))
	}
	return p
}

// sum is the exact one of some numbers.
func sum(all ...*big.Int) *big.Int {
	s := new(big.Int)
	for _, n := range all {
		s.Add(s, n)
	}
	return s
}

// contours are what P3.2 says, by its words: behind the first wrong End there are none.
func contours(o api.Outline) [][]api.Point {
	var all [][]api.Point
	ahead := -1
	for _, end := range o.Ends {
		if !(end > ahead) || end < 0 || end > len(o.Points)-1 {
			break
		}
		var contour []api.Point
		for i := ahead + 1; i <= end; i++ {
			contour = append(contour, o.Points[i])
		}
		all = append(all, contour)
		ahead = end
	}
	return all
}

// wrongEnds are Ends of ten points, and how many contours they have all the same.
func wrongEnds() []struct {
	ends []int
	want int
} {
	return []struct {
		ends []int
		want int
	}{
		{[]int{-1, 9}, 0},
		{[]int{-2, 9}, 0},
		{[]int{least, 9}, 0},
		{[]int{10}, 0},
		{[]int{10, 3, 9}, 0},
		{[]int{most}, 0},
		{[]int{0, 0, 9}, 1},
		{[]int{4, 4, 9}, 1},
		{[]int{4, 3, 9}, 1},
		{[]int{4, 0, 9}, 1},
		{[]int{4, -1, 9}, 1},
		{[]int{4, least, 9}, 1},
		{[]int{4, 10}, 1},
		{[]int{4, most, 9}, 1},
		{[]int{4, most, least, 9}, 1},
		{[]int{4, 11, 9}, 1},
		{[]int{9, 9}, 1},
		{[]int{9, 10}, 1},
		{[]int{1, 3, 9, 4}, 3},
		{[]int{0, 1, 2, 2, 3}, 3},
		{[]int{3, 6}, 2}, // the last points lie in none
		{[]int{0}, 1},
		{nil, 0},
	}
}

// outlines are some of all kinds: those that may be, and those that may not.
func outlines() []api.Outline {
	all := []api.Outline{
		{},
		{Points: rows(3)},
		{Ends: []int{0}},
		of(rows(1), 0),
		of([]api.Point{{X: -7, Y: 3}}, 0),
		of(square(0, 0, 4), 3),
		of(append(square(0, 0, 4), square(10, -10, 7)...), 3, 7),
		of(append(square(0, 0, 4), square(10, -10, 7)...), 0, 1, 4, 7),
		of([]api.Point{{X: most, Y: least, On: true}, {X: least, Y: most}, {X: most, Y: most}, {X: least, Y: least}, {X: -1, Y: 1, On: true}}, 1, 4),
	}
	for _, w := range wrongEnds() {
		all = append(all, of(rows(10), w.ends...))
	}
	for i, o := range all {
		// With a few of them off the curve, On is seen to go with its point.
		all[i] = twin(o)
		for k := range all[i].Points {
			all[i].Points[k].On = (k+i)%3 != 0
		}
	}
	return append(all, drawn(200)...)
}

// drawn are outlines that are drawn by chance, the same ones each time.
func drawn(n int) []api.Outline {
	chance := rand.New(rand.NewSource(3))
	var all []api.Outline
	for range n {
		var o api.Outline
		far := []int{5, 100, api.MaxAt, 1 << 31, most}[chance.Intn(5)]
		for range chance.Intn(14) {
			o.Points = append(o.Points, api.Point{X: chance.Intn(far)*2 - far, Y: chance.Intn(far)*2 - far, On: chance.Intn(2) == 0})
		}
		end := -1
		for range chance.Intn(5) {
			end += 1 + chance.Intn(4)
			o.Ends = append(o.Ends, end)
		}
		all = append(all, o)
	}
	return all
}

// P3.1: outlines of one contour, of several, and of none.
func TestRightOutlines(t *testing.T) {
	for name, o := range map[string]api.Outline{
		"nothing":                            {},
		"empty rows":                         {Points: []api.Point{}, Ends: []int{}},
		"two points":                         of(rows(2), 1),
		"two contours":                       of(rows(4), 1, 3),
		"contours of two, three, and five":   of(rows(10), 1, 4, 9),
		"200 points":                         of(rows(200), 199),
		"200 points, 40 contours":            of(rows(200), append(pairs(39), 199)...),
		"40 contours of two":                 of(rows(80), pairs(40)...),
		"the farthest points":                of([]api.Point{{X: -16384, Y: -16384}, {X: 16384, Y: 16384, On: true}}, 1),
		"the farthest points, the other way": of([]api.Point{{X: 16384, Y: -16384}, {X: -16384, Y: 16384}}, 1),
		"all at one place, off":              of(make([]api.Point, 5), 4),
	} {
		if !outline.Right(o) {
			t.Errorf("%s is not right", name)
		}
	}
}

// P3.1: one point, contour or coordinate beyond what may be, and Ends that are not as they must be.
func TestWrongOutlines(t *testing.T) {
	at := func(i, x, y int) api.Outline {
		o := of(rows(4), 3)
		o.Points[i] = api.Point{X: x, Y: y, On: true}
		return o
	}
	for name, o := range map[string]api.Outline{
		"201 points":                     of(rows(201), 200),
		"1000 points":                    of(rows(1000), 999),
		"41 contours":                    of(rows(82), pairs(41)...),
		"a first X beyond":               at(0, 16385, 0),
		"a last X beyond":                at(3, 16385, 0),
		"an X beyond, to the left":       at(1, -16385, 0),
		"a first Y beyond":               at(0, 0, 16385),
		"a last Y beyond":                at(3, 0, 16385),
		"a Y beyond, below":              at(2, 0, -16385),
		"the greatest X":                 at(2, most, 0),
		"the least X":                    at(2, least, 0),
		"the greatest Y":                 at(2, 0, most),
		"the least Y":                    at(2, 0, least),
		"a point without Ends":           of(rows(1)),
		"points, and empty Ends":         of(rows(4), []int{}...),
		"an End without points":          of(nil, 0),
		"an End of -1 without points":    of(nil, -1),
		"an End of 1 without points":     of(nil, 1),
		"a contour of one point":         of(rows(1), 0),
		"a first End of 0":               of(rows(3), 0, 2),
		"a first End below 0":            of(rows(3), -1, 2),
		"the least first End":            of(rows(3), least, 2),
		"an End just 1 more":             of(rows(5), 1, 2, 4),
		"a last End just 1 more":         of(rows(3), 1, 2),
		"an End that stands still":       of(rows(4), 1, 1, 3),
		"a last End that stands still":   of(rows(4), 3, 3),
		"an End that falls":              of(rows(6), 3, 1, 5),
		"an End that falls below 0":      of(rows(6), 3, -7, 5),
		"an End that falls to the least": of(rows(6), 3, least, 5),
		"a last End that falls":          of(rows(6), 5, 3),
		"a point behind the last End":    of(rows(4), 2),
		"a last End behind all":          of(rows(4), 4),
		"an End that is no number":       of(rows(4), 9, 3),
		"Ends that go round":             of(rows(4), 1, most, least+1, least+3, 3),
		"Ends that go round at once":     of(rows(4), most, least+1, 3),
		"a greatest End":                 of(rows(4), 1, most),
		"a greatest End, and one more":   of(rows(4), 1, most-1, most),
	} {
		if outline.Right(o) {
			t.Errorf("%s: is right", name)
		}
	}
}

// P3.3: the least and the greatest X and Y, of points in contours and of those in none.
func TestBoxReachesOverAllPoints(t *testing.T) {
	for _, x := range []struct {
		o         api.Outline
		low, high api.Point
	}{
		{of(square(3, -4, 10), 3), api.Point{X: 3, Y: -4}, api.Point{X: 13, Y: 6}},
		{of([]api.Point{{X: 5, Y: 7, On: true}}, 0), api.Point{X: 5, Y: 7}, api.Point{X: 5, Y: 7}},
		{of([]api.Point{{X: -5, Y: -7}}), api.Point{X: -5, Y: -7}, api.Point{X: -5, Y: -7}},
		{of([]api.Point{{X: 1, Y: 9, On: true}, {X: 2, Y: 8}, {X: -3, Y: 12, On: true}}, 1), api.Point{X: -3, Y: 8}, api.Point{X: 2, Y: 12}},
		{of([]api.Point{{X: 1, Y: 1, On: true}, {X: 2, Y: 2, On: true}, {X: 3, Y: 3, On: true}}), api.Point{X: 1, Y: 1}, api.Point{X: 3, Y: 3}},
		{of([]api.Point{{X: 3, Y: 3, On: true}, {X: 2, Y: 2, On: true}, {X: 1, Y: 1, On: true}}, -4), api.Point{X: 1, Y: 1}, api.Point{X: 3, Y: 3}},
		{of([]api.Point{{X: most, Y: least}, {X: least, Y: most}}, 1), api.Point{X: least, Y: least}, api.Point{X: most, Y: most}},
		{of([]api.Point{{}, {}}, 1), api.Point{}, api.Point{}},
	} {
		if low, high, ok := outline.Box(x.o); low != x.low || high != x.high || !ok {
			t.Errorf("Box(%v) = %v, %v, %t; want %v, %v", x.o, low, high, ok, x.low, x.high)
		}
	}
}

// P3.3: without points there is no box, whatever the Ends are.
func TestNoBoxWithoutPoints(t *testing.T) {
	for _, o := range []api.Outline{{}, {Points: []api.Point{}, Ends: []int{}}, of(nil, 0), of(nil, 1, 5)} {
		if low, high, ok := outline.Box(o); low != (api.Point{}) || high != (api.Point{}) || ok {
			t.Errorf("Box(%v) = %v, %v, %t", o, low, high, ok)
		}
	}
}

// P3.3: areas have a sign, are added up, are of all points, on the curve and off, and go round.
func TestAreaOfContours(t *testing.T) {
	clockwise := []api.Point{{X: 0, Y: 0}, {X: 0, Y: 4}, {X: 4, Y: 4}, {X: 4, Y: 0}}
	for _, x := range []struct {
		o    api.Outline
		want int
	}{
		{of([]api.Point{{X: 0, Y: 0}, {X: 4, Y: 0}, {X: 4, Y: 4}, {X: 0, Y: 4}}, 3), 32},
		{of(square(0, 0, 4), 3), 32},
		{of(square(-100, 70, 4), 3), 32},
		{of(clockwise, 3), -32},
		{of(append(square(0, 0, 10), clockwise...), 3, 7), 200 - 32},
		{of(append(square(0, 0, 10), square(0, 0, 10)...), 3, 7), 400},
		{of(append(square(0, 0, 10), square(20, 0, 10)...), 3), 200}, // the second one lies in none
		{of(append(square(0, 0, 10), square(20, 0, 10)...), 3, 3, 7), 200},
		{of(square(0, 0, 10), 4), 0},
		{of(square(0, 0, 10)), 0},
		{api.Outline{}, 0},
		{of(rows(1), 0), 0},
		{of([]api.Point{{X: 5, Y: 9}}, 0), 0},
		{of([]api.Point{{X: 5, Y: 9, On: true}, {X: -3, Y: 7}}, 1), 0},
		{of([]api.Point{{X: 0, Y: 0, On: true}, {X: 8, Y: 0}, {X: 8, Y: 8, On: true}}, 2), 64},
		{of([]api.Point{{X: 0, Y: 0}, {X: 1 << 31, Y: 0}, {X: 1 << 31, Y: 1 << 31}, {X: 0, Y: 1 << 31}}, 3), least},
		{of([]api.Point{{X: 0, Y: 0}, {X: 1 << 32, Y: 0}, {X: 1 << 32, Y: 1 << 32}, {X: 0, Y: 1 << 32}}, 3), 0},
		{of([]api.Point{{X: most, Y: 0}, {X: 0, Y: 2}, {X: 0, Y: 0}}, 2), -2},
	} {
		if got := outline.Area(x.o); got != x.want {
			t.Errorf("Area(%v) = %d, want %d", x.o, got, x.want)
		}
	}
}

// P3.3: the same as exact numbers, of outlines of all kinds.
func TestAreaOfManyOutlines(t *testing.T) {
	for _, o := range outlines() {
		want := new(big.Int)
		for _, contour := range contours(o) {
			for i, p := range contour {
				next := contour[(i+1)%len(contour)]
				want.Add(want, product(p.X, next.Y))
				want.Sub(want, product(next.X, p.Y))
			}
		}
		if got := outline.Area(o); got != goesRound(want) {
			t.Errorf("Area(%v) = %d, want %d", o, got, want)
		}
	}
}

// P3.4: all points are moved, those in no contour, too; sums go round.
func TestMovedPoints(t *testing.T) {
	points := []api.Point{{X: 1, Y: 2, On: true}, {X: -3, Y: 4}, {X: most, Y: least, On: true}}
	for _, ends := range [][]int{nil, {2}, {0}, {1, 0, 7}} {
		for _, x := range []struct {
			x, y int
			want []api.Point
		}{
			{0, 0, points},
			{10, -20, []api.Point{{X: 11, Y: -18, On: true}, {X: 7, Y: -16}, {X: least + 9, Y: most - 19, On: true}}},
			{1, 0, []api.Point{{X: 2, Y: 2, On: true}, {X: -2, Y: 4}, {X: least, Y: least, On: true}}},
			{0, -1, []api.Point{{X: 1, Y: 1, On: true}, {X: -3, Y: 3}, {X: most, Y: most, On: true}}},
		} {
			if got := outline.Moved(of(points, ends...), x.x, x.y); !same(got, of(x.want, ends...)) {
				t.Errorf("Moved by %d, %d of %v = %v", x.x, x.y, ends, got)
			}
		}
	}
	for _, o := range []api.Outline{{}, of(nil, 3, 1)} {
		if got := outline.Moved(o, 5, 5); !same(got, o) {
			t.Errorf("Moved(%v) = %v", o, got)
		}
	}
}

// P3.4: a contour's first point stays, all others turn round; those in none stay.
func TestReversedPoints(t *testing.T) {
	// Each point is told by its X, and is on the curve, if that is odd.
	numbered := func(all ...int) []api.Point {
		var points []api.Point
		for _, n := range all {
			points = append(points, api.Point{X: n, Y: -n, On: n%2 != 0})
		}
		return points
	}
	for _, x := range []struct {
		ends []int
		want []api.Point
	}{
		{[]int{5}, numbered(0, 5, 4, 3, 2, 1)},
		{[]int{2, 5}, numbered(0, 2, 1, 3, 5, 4)},
		{[]int{0, 5}, numbered(0, 1, 5, 4, 3, 2)},
		{[]int{0, 1, 2, 3, 4, 5}, numbered(0, 1, 2, 3, 4, 5)},
		{[]int{1, 3, 5}, numbered(0, 1, 2, 3, 4, 5)},
		{[]int{4}, numbered(0, 4, 3, 2, 1, 5)},
		{[]int{2, 2, 5}, numbered(0, 2, 1, 3, 4, 5)},
		{[]int{2, 1, 5}, numbered(0, 2, 1, 3, 4, 5)},
		{[]int{2, 6}, numbered(0, 2, 1, 3, 4, 5)},
		{[]int{2, most, 5}, numbered(0, 2, 1, 3, 4, 5)},
		{[]int{-1, 5}, numbered(0, 1, 2, 3, 4, 5)},
		{[]int{6}, numbered(0, 1, 2, 3, 4, 5)},
		{nil, numbered(0, 1, 2, 3, 4, 5)},
	} {
		if got := outline.Reversed(of(numbered(0, 1, 2, 3, 4, 5), x.ends...)); !same(got, of(x.want, x.ends...)) {
			t.Errorf("Reversed of %v = %v", x.ends, got)
		}
	}
	if got := outline.Reversed(of(nil, 0, 4)); !same(got, of(nil, 0, 4)) {
		t.Errorf("Reversed of no points = %v", got)
	}
	want := []api.Point{{X: 0, Y: 0}, {X: 4, Y: 4}, {X: 4, Y: 0}}
	if got := outline.Reversed(of([]api.Point{{X: 0, Y: 0}, {X: 4, Y: 0}, {X: 4, Y: 4}}, 2)); !slices.Equal(got.Points, want) {
		t.Errorf("Reversed of three = %v", got)
	}
}

// P3.6: what is reversed twice is as it was; its area is turned; what may be may be then, too.
func TestReversedTwice(t *testing.T) {
	for _, o := range outlines() {
		reversed := outline.Reversed(o)
		if got := outline.Reversed(reversed); !same(got, o) {
			t.Errorf("twice: %v, want %v", got, o)
		}
		if got, want := outline.Area(reversed), -outline.Area(o); got != want {
			t.Errorf("Area of %v reversed = %d, want %d", o, got, want)
		}
		if got, want := outline.Right(reversed), outline.Right(o); got != want {
			t.Errorf("Right of %v reversed = %t", o, got)
		}
	}
}

// R3: what is handed in stays as it is, and what is told is the caller's.
func TestOutlinesStayAsTheyAre(t *testing.T) {
	for _, o := range outlines() {
		was := twin(o)
		outline.Right(o)
		outline.Box(o)
		outline.Area(o)
		for _, made := range []func() api.Outline{
			func() api.Outline { return outline.Moved(o, 3, 4) },
			func() api.Outline { return outline.Moved(o, 0, 0) },
			func() api.Outline { return outline.Reversed(o) },
		} {
			first := made()
			if !same(o, was) {
				t.Fatalf("is %v, was %v", o, was)
			}
			for i := range first.Points {
				first.Points[i].X += 1000
			}
			for i := range first.Ends {
				first.Ends[i] = -9
			}
			if !same(o, was) {
				t.Fatalf("written over: is %v, was %v", o, was)
			}
		}
	}
}

// R3: what is appended to what is told is not written behind what was handed in.
func TestNothingIsWrittenBehindRows(t *testing.T) {
	points, ends := rows(5), []int{1, 3, 4}
	o := api.Outline{Points: points[:4], Ends: ends[:2]}
	for _, made := range []api.Outline{outline.Moved(o, 1, 1), outline.Reversed(o)} {
		_, _ = append(made.Points, api.Point{X: 77}), append(made.Ends, 77)
		if points[4] != rows(5)[4] || ends[2] != 4 {
			t.Errorf("behind the rows stand %v, %d", points[4], ends[2])
		}
	}
}
