package compose_test

import (
	"math"
	"math/rand"
	"slices"
	"testing"

	"fleuron/api"
	"fleuron/compose"
)

const (
	most  = math.MaxInt
	least = math.MinInt
)

// font is one whose glyphs have parts of these numbers, and no outlines.
func font(parts ...[]int) api.Font {
	var f api.Font
	for _, row := range parts {
		var g api.Glyph
		for _, n := range row {
			g.Parts = append(g.Parts, api.Part{Glyph: n})
		}
		f.Glyphs = append(f.Glyphs, g)
	}
	return f
}

// parts are numbers of parts.
func parts(n ...int) []int { return n }

// part is a part, and where.
func part(glyph, x, y int) api.Part { return api.Part{Glyph: glyph, X: x, Y: y} }

// dots are so many points, the first one at x, y, each other one a step to the right, with one End, at the last one.
func dots(x, y, n int) api.Outline {
	var o api.Outline
	for i := range n {
		o.Points = append(o.Points, api.Point{X: x + i, Y: y, On: i%2 == 0})
	}
	o.Ends = []int{n - 1}
	return o
}

// shapes are glyphs with just an outline each.
func shapes(outlines ...api.Outline) api.Font {
	var f api.Font
	for _, o := range outlines {
		f.Glyphs = append(f.Glyphs, api.Glyph{Outline: o})
	}
	return f
}

// same tells whether two outlines have the same points, and Ends.
func same(a, b api.Outline) bool {
	return slices.Equal(a.Points, b.Points) && slices.Equal(a.Ends, b.Ends)
}

// sameFont tells whether two fonts have the same glyphs, as far as this layer looks at them.
func sameFont(a, b api.Font) bool {
	return slices.EqualFunc(a.Glyphs, b.Glyphs, func(a, b api.Glyph) bool {
		return same(a.Outline, b.Outline) && slices.Equal(a.Parts, b.Parts)
	})
}

// twin is the same font in other memory, to hold the first one against.
func twin(f api.Font) api.Font {
	var t api.Font
	for _, g := range f.Glyphs {
		t.Glyphs = append(t.Glyphs, api.Glyph{
			Outline: api.Outline{Points: slices.Clone(g.Outline.Points), Ends: slices.Clone(g.Outline.Ends)},
			Parts:   slices.Clone(g.Parts),
		})
	}
	return t
}

// partsOf are a glyph's parts, by the chapter's words.
func partsOf(f api.Font, glyph int) []api.Part {
	return slices.DeleteFunc(slices.Clone(f.Glyphs[glyph].Parts), func(p api.Part) bool {
		return p.Glyph < 0 || p.Glyph >= len(f.Glyphs)
	})
}

// partOf tells of each glyph whether it is part of one: its parts, and what is part of these.
func partOf(f api.Font, glyph int) []bool {
	is := make([]bool, len(f.Glyphs))
	for _, p := range partsOf(f, glyph) {
		is[p.Glyph] = true
	}
	for range f.Glyphs {
		for g := range f.Glyphs {
			for _, p := range partsOf(f, g) {
				is[p.Glyph] = is[p.Glyph] || is[g]
			}
		}
	}
	return is
}

// comesToLoop tells whether a glyph, or something that is part of it, is part of itself.
func comesToLoop(f api.Font, glyph int) bool {
	is := partOf(f, glyph)
	for g := range f.Glyphs {
		if (g == glyph || is[g]) && partOf(f, g)[g] {
			return true
		}
	}
	return false
}

// depth is how deep a glyph is that comes to no loop.
func depth(f api.Font, glyph int) int {
	deep := 0
	for _, p := range partsOf(f, glyph) {
		deep = max(deep, 1+depth(f, p.Glyph))
	}
	return deep
}

// size is how many points a glyph that comes to no loop has, with all parts'.
func size(f api.Font, glyph int) int {
	n := len(f.Glyphs[glyph].Outline.Points)
	for _, p := range partsOf(f, glyph) {
		n += size(f, p.Glyph)
	}
	return n
}

// drawn is P4.3's outline of a glyph that comes to no loop.
func drawn(f api.Font, glyph int) api.Outline {
	var o api.Outline
	o.Points = append(o.Points, f.Glyphs[glyph].Outline.Points...)
	o.Ends = append(o.Ends, f.Glyphs[glyph].Outline.Ends...)
	for _, p := range partsOf(f, glyph) {
		ahead, behind := len(o.Points), drawn(f, p.Glyph)
		for _, q := range behind.Points {
			o.Points = append(o.Points, api.Point{X: q.X + p.X, Y: q.Y + p.Y, On: q.On})
		}
		for _, end := range behind.Ends {
			o.Ends = append(o.Ends, end+ahead)
		}
	}
	return o
}

// wantDeep is what P4.2 says, by its words.
func wantDeep(f api.Font, glyph int) (int, api.Errno) {
	switch {
	case glyph < 0 || glyph >= len(f.Glyphs):
		return 0, api.ErrGlyph
	case comesToLoop(f, glyph):
		return 0, api.ErrLoop
	case depth(f, glyph) > 4:
		return 0, api.ErrDeep
	}
	return depth(f, glyph), api.OK
}

// wantFlat is what P4.3 says, by its words.
func wantFlat(f api.Font, glyph int) (api.Outline, api.Errno) {
	if _, err := wantDeep(f, glyph); err != api.OK {
		return api.Outline{}, err
	}
	if size(f, glyph) > 1000 {
		return api.Outline{}, api.ErrMany
	}
	return drawn(f, glyph), api.OK
}

// wantAll is what P4.4 says, by its words.
func wantAll(f api.Font, glyph int) []int {
	var all []int
	for g := range f.Glyphs {
		if glyph >= 0 && glyph < len(f.Glyphs) && (g == glyph || partOf(f, glyph)[g]) {
			all = append(all, g)
		}
	}
	return all
}

// holdDeep holds Deep against what is wanted.
func holdDeep(t *testing.T, f api.Font, glyph, deep int, err api.Errno) {
	t.Helper()
	if got, e := compose.Deep(f, glyph); got != deep || e != err {
		t.Errorf("Deep of %d in %v = %d, %v, want %d, %v", glyph, f.Glyphs, got, e, deep, err)
	}
}

// holdFlat holds Flat against what is wanted.
func holdFlat(t *testing.T, f api.Font, glyph int, flat api.Outline, err api.Errno) {
	t.Helper()
	if got, e := compose.Flat(f, glyph); !same(got, flat) || e != err {
		t.Errorf("Flat of %d in %v = %v, %v, want %v, %v", glyph, f.Glyphs, got, e, flat, err)
	}
}

// holdAll holds All against what is wanted.
func holdAll(t *testing.T, f api.Font, glyph int, all []int) {
	t.Helper()
	if got := compose.All(f, glyph); !slices.Equal(got, all) {
		t.Errorf("All of %d in %v = %v, want %v", glyph, f.Glyphs, got, all)
	}
}

// holdAllCalls holds each call, of each glyph and of some that are not there, against the promises' words.
func holdAllCalls(t *testing.T, f api.Font) {
	t.Helper()
	order, first, err := wantOrder(f)
	holdOrder(t, f, order, first, err)
	for glyph := -2; glyph < len(f.Glyphs)+2; glyph++ {
		deep, err := wantDeep(f, glyph)
		holdDeep(t, f, glyph, deep, err)
		flat, err := wantFlat(f, glyph)
		holdFlat(t, f, glyph, flat, err)
		holdAll(t, f, glyph, wantAll(f, glyph))
	}
}

// drawnFont is a small font by chance: how many glyphs, and up to how many parts and points each has; onward: parts have greater numbers.
func drawnFont(r *rand.Rand, glyphs, parts, points int, onward bool) api.Font {
	at := []int{0, 0, 1, -1, 7, -300, most, least, most - 1, 1 << 40}
	any := func() int { return at[r.Intn(len(at))] }
	var f api.Font
	for n := range glyphs {
		var g api.Glyph
		for range r.Intn(parts + 1) {
			p := api.Part{Glyph: r.Intn(glyphs+2) - 1, X: any(), Y: any()}
			if onward {
				p.Glyph = n + 1 + r.Intn(min(2, glyphs-n))
			}
			g.Parts = append(g.Parts, p)
		}
		for range r.Intn(points + 1) {
			g.Outline.Points = append(g.Outline.Points, api.Point{X: any(), Y: any(), On: r.Intn(2) == 0})
			if r.Intn(2) == 0 {
				g.Outline.Ends = append(g.Outline.Ends, any())
			}
		}
		f.Glyphs = append(f.Glyphs, g)
	}
	return f
}

// fonts are many small ones: those that may be, and those that may not.
func fonts() []api.Font {
	r := rand.New(rand.NewSource(4))
	all := []api.Font{{}, font(nil)}
	for i := range 6000 {
		all = append(all, drawnFont(r, i%9, 1+i%4, i%5, i%3 > 0))
	}
	return all
}

// P4.1 to P4.4: of many fonts, what the promises' words say; of those that may not be, too.
func TestManyFonts(t *testing.T) {
	told := map[api.Errno]int{}
	for _, f := range fonts() {
		holdAllCalls(t, f)
		for glyph := range f.Glyphs {
			_, err := compose.Deep(f, glyph)
			told[err]++
		}
		if t.Failed() {
			return
		}
	}
	for _, err := range []api.Errno{api.OK, api.ErrLoop, api.ErrDeep} {
		if told[err] < 300 {
			t.Errorf("error %d is told %d times only", err, told[err])
		}
	}
}

// P4.1, P4.2, P4.4: of all fonts of three glyphs, what the promises' words say: each glyph has, or has not, each one as a part.
func TestAllSmallFonts(t *testing.T) {
	for bits := range 1 << 9 {
		rows := make([][]int, 3)
		for i := range 9 {
			if bits>>i&1 == 1 {
				rows[i/3] = append(rows[i/3], i%3)
			}
		}
		holdAllCalls(t, font(rows...))
	}
}

// P4.2: how deep glyphs are: without parts, with one and several, the same one twice, and parts of parts.
func TestDeep(t *testing.T) {
	f := font(
		parts(1, 2),                  // 2
		parts(2),                     // 1
		nil,                          // 0
		parts(2, 2),                  // 1
		parts(3, 0, 2, 3),            // 3
		parts(4),                     // 4
		parts(-1, 9, 2, least, most), // 1
		parts(-1, 9),                 // 0
		parts(8+1, 7, -8),            // 1
	)
	for glyph, deep := range []int{2, 1, 0, 1, 3, 4, 1, 0, 1} {
		holdDeep(t, f, glyph, deep, api.OK)
	}
}

// P4.2: where there is no glyph of a number, not even one that was there, or is below 0.
func TestDeepWithoutAGlyph(t *testing.T) {
	for _, glyph := range []int{-1, 3, 4, most, least} {
		holdDeep(t, font(parts(1), parts(2), nil), glyph, 0, api.ErrGlyph)
	}
	for _, glyph := range []int{0, 1, -1, most, least} {
		holdDeep(t, api.Font{}, glyph, 0, api.ErrGlyph)
	}
	// ErrGlyph is named first, whatever there is besides.
	holdDeep(t, font(parts(0)), 1, 0, api.ErrGlyph)
}

// P4.2: a loop that the glyph is in, or comes to, is told; one that it does not come to is not.
func TestDeepInLoops(t *testing.T) {
	f := font(
		parts(1),    // to the loop of 1
		parts(1),    // part of itself at once
		parts(3),    // by way of 3
		parts(4, 5), // by way of 4 and 2
		parts(2),
		nil,
		parts(5),       // comes to none
		parts(6, 5, 6), // likewise
		parts(7, 5, 3), // to that of 2, 3 and 4
		parts(9, 9),    // part of itself twice
	)
	for _, glyph := range []int{0, 1, 2, 3, 4, 8, 9} {
		holdDeep(t, f, glyph, 0, api.ErrLoop)
	}
	holdDeep(t, f, 5, 0, api.OK)
	holdDeep(t, f, 6, 1, api.OK)
	holdDeep(t, f, 7, 2, api.OK)
}

// P4.2: 4 deep may be, 5 deep may not, though its parts may; the longest way down counts.
func TestDeepAtTheLimit(t *testing.T) {
	f := font(parts(1), parts(2), parts(3), parts(4), parts(5), nil, parts(5, 0), parts(5, 1), parts(6))
	for glyph := 1; glyph <= 5; glyph++ {
		holdDeep(t, f, glyph, 5-glyph, api.OK)
	}
	for _, glyph := range []int{0, 6, 7, 8} {
		holdDeep(t, f, glyph, 0, api.ErrDeep)
	}
	// A part that there is not makes none deeper.
	f.Glyphs[5].Parts = []api.Part{part(9, 0, 0), part(-1, 0, 0)}
	holdDeep(t, f, 1, 4, api.OK)
	// ErrLoop is named ahead of ErrDeep, however far down the loop is.
	f.Glyphs[5].Parts = []api.Part{part(5, 0, 0)}
	holdDeep(t, f, 0, 0, api.ErrLoop)
}

// P4.3: its own outline, then part by part, in order, moved.
func TestFlat(t *testing.T) {
	f := shapes(dots(0, 0, 2), dots(100, 0, 1), api.Outline{}, dots(0, 50, 3))
	f.Glyphs[0].Parts = []api.Part{part(1, 10, 20), part(3, 5, -5), part(1, -7, 0)}
	f.Glyphs[2].Parts = []api.Part{part(0, 1000, 2000), part(9, 1, 1), part(1, 0, 1)}
	on := func(x, y int) api.Point { return api.Point{X: x, Y: y, On: true} }
	off := func(x, y int) api.Point { return api.Point{X: x, Y: y} }
	zero := []api.Point{on(0, 0), off(1, 0), on(110, 20), on(5, 45), off(6, 45), on(7, 45), on(93, 0)}
	holdFlat(t, f, 0, api.Outline{Points: zero, Ends: []int{1, 2, 5, 6}}, api.OK)
	holdFlat(t, f, 1, api.Outline{Points: []api.Point{on(100, 0)}, Ends: []int{0}}, api.OK)
	two := []api.Point{on(1000, 2000), off(1001, 2000), on(1110, 2020), on(1005, 2045), off(1006, 2045), on(1007, 2045), on(1093, 2000), on(100, 1)}
	holdFlat(t, f, 2, api.Outline{Points: two, Ends: []int{1, 2, 5, 6, 7}}, api.OK)
	holdFlat(t, f, 3, dots(0, 50, 3), api.OK)
}

// P4.3: parts that are moved may be moved as parts of parts, too, and none of them moves its fellow.
func TestFlatMovesPartsOfParts(t *testing.T) {
	f := shapes(api.Outline{}, api.Outline{}, api.Outline{}, api.Outline{}, dots(3, 4, 1))
	f.Glyphs[0].Parts = []api.Part{part(1, 1, 10000), part(1, 2, 20000)}
	f.Glyphs[1].Parts = []api.Part{part(2, 10, 1000), part(4, 0, 0)}
	f.Glyphs[2].Parts = []api.Part{part(3, 100, 100)}
	f.Glyphs[3].Parts = []api.Part{part(4, 1000, 10)}
	want := api.Outline{Ends: []int{0, 1, 2, 3}}
	for _, p := range []api.Pt{{X: 1114, Y: 11114}, {X: 4, Y: 10004}, {X: 1115, Y: 21114}, {X: 5, Y: 20004}} {
		want.Points = append(want.Points, api.Point{X: p.X, Y: p.Y, On: true})
	}
	holdFlat(t, f, 0, want, api.OK)
}

// P4.3: Deep's errors, and nothing beside them.
func TestFlatTellsDeepsErrors(t *testing.T) {
	f := shapes(dots(0, 0, 5), dots(0, 0, 5), dots(0, 0, 5), dots(0, 0, 5), dots(0, 0, 5), dots(0, 0, 5), dots(0, 0, 5), dots(0, 0, 2000))
	for i := range 5 {
		f.Glyphs[i].Parts = []api.Part{part(i+1, 1, 1)}
	}
	f.Glyphs[6].Parts = []api.Part{part(7, 0, 0), part(6, 0, 0)}
	holdFlat(t, f, 0, api.Outline{}, api.ErrDeep)
	holdFlat(t, f, 6, api.Outline{}, api.ErrLoop)
	holdFlat(t, f, 7, api.Outline{}, api.ErrMany)
	for _, glyph := range []int{-1, 8, most, least} {
		holdFlat(t, f, glyph, api.Outline{}, api.ErrGlyph)
	}
	holdFlat(t, api.Font{}, 0, api.Outline{}, api.ErrGlyph)
	// Deep's errors are named ahead of ErrMany.
	f.Glyphs[5].Parts = []api.Part{part(7, 0, 0)}
	holdFlat(t, f, 0, api.Outline{}, api.ErrDeep)
	holdFlat(t, f, 1, api.Outline{}, api.ErrDeep)
	holdFlat(t, f, 2, api.Outline{}, api.ErrMany)
	// What there is in others plays no part.
	f.Glyphs[3].Parts = nil
	holdFlat(t, f, 3, dots(0, 0, 5), api.OK)
}

// P4.3: 1000 points may be, 1001 may not: its own, its parts', and those that stand there twice.
func TestFlatAtTheLimit(t *testing.T) {
	for _, x := range []struct {
		own, one, other int
		parts           []int
		err             api.Errno
	}{
		{1000, 0, 0, nil, api.OK},
		{1001, 0, 0, nil, api.ErrMany},
		{0, 1000, 0, parts(1), api.OK},
		{0, 1001, 0, parts(1), api.ErrMany},
		{1, 1000, 0, parts(1), api.ErrMany},
		{1, 999, 0, parts(1), api.OK},
		{0, 500, 0, parts(1, 1), api.OK},
		{1, 500, 0, parts(1, 1), api.ErrMany},
		{0, 500, 1, parts(1, 1, 2), api.ErrMany},
		{0, 501, 0, parts(1, 1), api.ErrMany},
		{0, 501, 499, parts(1, 2), api.OK},
		{0, 501, 500, parts(2, 1), api.ErrMany},
		{100, 100, 200, parts(1, 2, 1, 2, 1, 2), api.OK},
		{101, 100, 200, parts(1, 2, 1, 2, 1, 2), api.ErrMany},
		{1000, 0, 1, parts(3, -1, 1), api.OK}, // what there is not has no points
		{1000, 0, 2000, nil, api.OK},          // what is no part counts nothing
		{0, 0, 0, parts(1, 2, 1), api.OK},
	} {
		f := shapes(dots(1, 1, x.own), dots(2, 2, x.one), dots(3, 3, x.other))
		for i, n := range x.parts {
			f.Glyphs[0].Parts = append(f.Glyphs[0].Parts, part(n, i, -i))
		}
		want, err := wantFlat(f, 0)
		if err != x.err {
			t.Fatalf("%v: %v is wanted", x, err)
		}
		holdFlat(t, f, 0, want, x.err)
	}
}

// P4.3: the limit counts parts of parts, as often as they are there; one that is a part may be within it.
func TestFlatCountsPartsOfParts(t *testing.T) {
	for points, err := range map[int]api.Errno{62: api.OK, 63: api.ErrMany} {
		f := shapes(dots(0, 0, 8), api.Outline{}, api.Outline{}, api.Outline{}, dots(0, 0, points))
		for i := range 4 {
			f.Glyphs[i].Parts = []api.Part{part(i+1, 1, 0), part(i+1, 0, 1)}
		}
		want, e := wantFlat(f, 0)
		if e != err {
			t.Fatalf("%d points: %v is wanted", points, e)
		}
		holdFlat(t, f, 0, want, err)
		want, _ = wantFlat(f, 1)
		holdFlat(t, f, 1, want, api.OK)
	}
}

// P4.3: all Ends behind points that stand ahead are more by how many these are; also Ends that may not be.
func TestFlatMovesAnyEnds(t *testing.T) {
	f := shapes(
		api.Outline{Points: dots(0, 0, 3).Points, Ends: []int{9, -1, most}},
		api.Outline{Points: dots(0, 0, 2).Points, Ends: []int{1, 0, -5, least, most, most - 2}},
		api.Outline{Ends: []int{-1, 0, 77}},
	)
	f.Glyphs[0].Parts = []api.Part{part(2, 0, 0), part(1, 0, 0), part(2, 0, 0)}
	want := []int{9, -1, most, 2, 3, 80, 4, 3, -2, least + 3, least + 2, least, 4, 5, 82}
	got, err := compose.Flat(f, 0)
	if err != api.OK || !slices.Equal(got.Ends, want) || len(got.Points) != 5 {
		t.Errorf("Flat = %v, %v", got, err)
	}
	// Ends of an outline without points stay Ends.
	holdFlat(t, f, 2, api.Outline{Ends: []int{-1, 0, 77}}, api.OK)
}

// P4.3: sums that are too great go round.
func TestFlatGoesRound(t *testing.T) {
	f := shapes(api.Outline{}, api.Outline{}, dots(5, -5, 1))
	f.Glyphs[0].Parts = []api.Part{part(1, most, least)}
	f.Glyphs[1].Parts = []api.Part{part(2, most, least)}
	holdFlat(t, f, 1, api.Outline{Points: []api.Point{{X: least + 4, Y: most - 4, On: true}}, Ends: []int{0}}, api.OK)
	holdFlat(t, f, 0, dots(3, -5, 1), api.OK)
}

// P4.4: it, and all that is part of it, each once, rising: also within loops.
func TestAll(t *testing.T) {
	f := font(
		parts(5, 1),
		parts(2, 2),
		nil,
		parts(3),
		parts(7, 6),
		nil,
		parts(4, 0),
		parts(-1, 9, 8),
		parts(2),
	)
	for glyph, all := range [][]int{{0, 1, 2, 5}, {1, 2}, {2}, {3}, {0, 1, 2, 4, 5, 6, 7, 8}, {5}, {0, 1, 2, 4, 5, 6, 7, 8}, {2, 7, 8}, {2, 8}} {
		holdAll(t, f, glyph, all)
	}
	for _, glyph := range []int{-1, 9, 10, most, least} {
		holdAll(t, f, glyph, nil)
	}
	holdAll(t, api.Font{}, 0, nil)
}

// P4.4: down a way of any length, also deeper than parts may be.
func TestAllOfALongWay(t *testing.T) {
	for length := range 40 {
		rows := make([][]int, length+2)
		for glyph := range length {
			rows[glyph] = parts(glyph + 1)
		}
		f := font(rows...)
		holdAll(t, f, 0, wantAll(f, 0))
		// The way back up makes it a loop.
		f.Glyphs[length].Parts = []api.Part{part(0, 0, 0)}
		holdAll(t, f, length/2, wantAll(f, 0))
	}
}

// P4.5: a glyph is as deep as the longest way down, has as many points as its own and its parts' flat ones together, and is, with its flat outline as its own, and without parts, the same.
func TestWhatFollows(t *testing.T) {
	drawings := 0
	for _, f := range fonts() {
		for glyph := range f.Glyphs {
			flat, err := compose.Flat(f, glyph)
			if err != api.OK {
				continue
			}
			drawings++
			deep, _ := compose.Deep(f, glyph)
			if way := longest(f, glyph); deep != way {
				t.Errorf("%d of %v is %d deep; the longest way is %d", glyph, f.Glyphs, deep, way)
			}
			count := len(f.Glyphs[glyph].Outline.Points)
			for _, p := range partsOf(f, glyph) {
				of, _ := compose.Flat(f, p.Glyph)
				count += len(of.Points)
			}
			if count != len(flat.Points) {
				t.Errorf("%d of %v has %d points, and together %d", glyph, f.Glyphs, len(flat.Points), count)
			}
			g := twin(f)
			g.Glyphs[glyph] = api.Glyph{Outline: flat}
			holdFlat(t, g, glyph, flat, api.OK)
			holdDeep(t, g, glyph, 0, api.OK)
		}
	}
	if drawings < 5000 {
		t.Errorf("only %d", drawings)
	}
}

// longest is how many steps the longest way down from a glyph has: the last row of glyphs that so many steps come to.
func longest(f api.Font, glyph int) int {
	row := []int{glyph}
	for steps := 0; ; steps++ {
		var next []int
		for _, g := range row {
			for _, p := range partsOf(f, g) {
				if !slices.Contains(next, p.Glyph) {
					next = append(next, p.Glyph)
				}
			}
		}
		if len(next) == 0 {
			return steps
		}
		row = next
	}
}

// R3: what is handed in stays as it is, and what is told is the caller's.
func TestWhatIsToldIsTheCallers(t *testing.T) {
	f := shapes(dots(0, 0, 2), dots(9, 9, 3), dots(1, 1, 4))
	f.Glyphs[0].Parts = []api.Part{part(1, 10, 0), part(2, 0, 10), part(1, 20, 0)}
	f.Glyphs[1].Parts = []api.Part{part(2, -1, -1)}
	before := twin(f)
	for glyph := range f.Glyphs {
		want, _ := wantFlat(f, glyph)
		all := wantAll(f, glyph)
		for range 2 {
			flat, _ := compose.Flat(f, glyph)
			row := compose.All(f, glyph)
			order, _, _ := compose.Order(f)
			again, _ := compose.Flat(f, glyph)
			for i := range flat.Points {
				flat.Points[i] = api.Point{X: 77}
			}
			for _, numbers := range [][]int{flat.Ends, row, order} {
				for i := range numbers {
					numbers[i] = 77
				}
			}
			if !same(again, want) || !sameFont(f, before) {
				t.Fatalf("written over: %v, %v", again, f.Glyphs)
			}
			holdFlat(t, f, glyph, want, api.OK)
			holdAll(t, f, glyph, all)
			holdOrder(t, f, []int{2, 1, 0}, 0, api.OK)
		}
	}
	// What is told does not hang on what the font becomes.
	flat, _ := compose.Flat(f, 2)
	f.Glyphs[2].Outline.Points[0].X, f.Glyphs[2].Outline.Ends[0] = 88, 99
	if !same(flat, dots(1, 1, 4)) {
		t.Errorf("the font writes to %v", flat)
	}
}

// R3: nothing is written behind what is handed in, where there is room for more.
func TestNothingIsWrittenBehind(t *testing.T) {
	points, ends := append(make([]api.Point, 0, 50), api.Point{X: 1}), append(make([]int, 0, 50), 0)
	f := shapes(api.Outline{Points: points, Ends: ends}, dots(5, 5, 3))
	f.Glyphs[0].Parts = append(make([]api.Part, 0, 50), part(1, 1, 1), part(1, 2, 2))
	compose.Flat(f, 0)
	if slices.ContainsFunc(points[1:50], func(p api.Point) bool { return p != api.Point{} }) || slices.Max(ends[1:50]) != 0 || slices.Min(ends[1:50]) != 0 {
		t.Errorf("%v, %v", points[:50], ends[:50])
	}
}
