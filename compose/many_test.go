package compose_test

import (
	"testing"

	"fleuron/api"
	"fleuron/compose"
)

const many = 200000

// chain are many glyphs, each of which has the next one as a part, as often as told.
func chain(glyphs, often int) api.Font {
	f := api.Font{Glyphs: make([]api.Glyph, glyphs)}
	for glyph := range glyphs - 1 {
		for range often {
			f.Glyphs[glyph].Parts = append(f.Glyphs[glyph].Parts, part(glyph+1, 1, 1))
		}
	}
	return f
}

// holdFirst holds Order of a font with loops against the first glyph that is part of itself.
func holdFirst(t *testing.T, f api.Font, first int) {
	t.Helper()
	if order, n, err := compose.Order(f); order != nil || n != first || err != api.ErrLoop {
		t.Errorf("Order: %d glyphs, %d, %v, want %d", len(order), n, err, first)
	}
}

// holdError holds Deep's and Flat's error of a glyph against what is wanted.
func holdError(t *testing.T, f api.Font, glyph int, err api.Errno) {
	t.Helper()
	deep, e := compose.Deep(f, glyph)
	flat, of := compose.Flat(f, glyph)
	if deep != 0 || e != err || !same(flat, api.Outline{}) || of != err {
		t.Errorf("Deep: %d, %v; Flat: %d points, %v; want %v", deep, e, len(flat.Points), of, err)
	}
}

// P1, P4.1 to P4.4: a way down that is longer than calls may lie within calls.
func TestALongChain(t *testing.T) {
	f := chain(many, 1)
	order, first, err := compose.Order(f)
	if len(order) != many || first != 0 || err != api.OK {
		t.Fatalf("Order: %d glyphs, %d, %v", len(order), first, err)
	}
	for i, glyph := range order {
		if glyph != many-1-i {
			t.Fatalf("at %d: %d", i, glyph)
		}
	}
	holdError(t, f, 0, api.ErrDeep)
	holdError(t, f, many-6, api.ErrDeep)
	if deep, err := compose.Deep(f, many-5); deep != 4 || err != api.OK {
		t.Errorf("Deep: %d, %v", deep, err)
	}
	if all := compose.All(f, 1); len(all) != many-1 || all[0] != 1 || all[many-2] != many-1 {
		t.Errorf("All: %d", len(all))
	}
}

// P4.1, P4.2: a loop at the end of a long way, and one all the way round.
func TestALongWayToALoop(t *testing.T) {
	f := chain(many, 2)
	f.Glyphs[many-1].Parts = []api.Part{part(many-1, 0, 0)}
	holdFirst(t, f, many-1)
	holdError(t, f, 0, api.ErrLoop)
	f.Glyphs[many-1].Parts = []api.Part{part(many-3, 0, 0)}
	holdFirst(t, f, many-3)
	holdError(t, f, 0, api.ErrLoop)
	f.Glyphs[many-1].Parts = []api.Part{part(0, 0, 0)}
	holdFirst(t, f, 0)
	holdError(t, f, many/2, api.ErrLoop)
	if all := compose.All(f, many/2); len(all) != many {
		t.Errorf("All: %d", len(all))
	}
}

// P4.1: very many glyphs that come to a great loop, and that another great loop comes to, but that are part of no loop.
func TestManyGlyphsBetweenLoops(t *testing.T) {
	const between, ring = 30000, 30000
	f := api.Font{Glyphs: make([]api.Glyph, between+2*ring)}
	for glyph := range between {
		f.Glyphs[glyph].Parts = []api.Part{part(between+ring, 0, 0)}
		f.Glyphs[between].Parts = append(f.Glyphs[between].Parts, part(glyph, 0, 0))
		if glyph+1 < between {
			f.Glyphs[glyph].Parts = append(f.Glyphs[glyph].Parts, part(glyph+1, 0, 0))
		}
	}
	for i := range ring {
		for _, begin := range []int{between, between + ring} {
			f.Glyphs[begin+i].Parts = append(f.Glyphs[begin+i].Parts, part(begin+(i+1)%ring, 0, 0))
		}
	}
	holdFirst(t, f, between)
	holdError(t, f, 0, api.ErrLoop)
}

// P4.1 to P4.4: one glyph that is part of others on more ways than can be gone.
func TestManyWays(t *testing.T) {
	f := chain(100, 8)
	holdError(t, f, 0, api.ErrDeep)
	order, _, err := compose.Order(f)
	if all := compose.All(f, 0); len(order) != 100 || err != api.OK || len(all) != 100 {
		t.Errorf("Order: %d, %v; All: %d", len(order), err, len(all))
	}
	f.Glyphs[99].Parts = []api.Part{part(99, 0, 0)}
	holdFirst(t, f, 99)
	holdError(t, f, 0, api.ErrLoop)
	f = api.Font{Glyphs: make([]api.Glyph, 400)}
	for glyph := range f.Glyphs {
		for n := glyph + 1; n < 400; n++ {
			f.Glyphs[glyph].Parts = append(f.Glyphs[glyph].Parts, part(n, 0, 0))
		}
	}
	holdError(t, f, 0, api.ErrDeep)
	if order, _, err := compose.Order(f); len(order) != 400 || order[0] != 399 || err != api.OK {
		t.Errorf("Order: %d, %v", len(order), err)
	}
}

// P4.3: so many points that their number goes round are too many, and so many parts without any are none.
func TestManyPartsOfFewPoints(t *testing.T) {
	f := chain(5, 1<<16)
	deep, err := compose.Deep(f, 0)
	flat, of := compose.Flat(f, 0)
	if deep != 4 || err != api.OK || !same(flat, api.Outline{}) || of != api.OK {
		t.Errorf("Deep: %d, %v; Flat: %v, %v", deep, err, flat, of)
	}
	f.Glyphs[4].Outline = dots(0, 0, 1)
	if deep, err := compose.Deep(f, 0); deep != 4 || err != api.OK {
		t.Errorf("Deep: %d, %v", deep, err)
	}
	for glyph := range 4 {
		if flat, err := compose.Flat(f, glyph); !same(flat, api.Outline{}) || err != api.ErrMany {
			t.Errorf("Flat of %d: %d points, %v", glyph, len(flat.Points), err)
		}
	}
	// A thousand times one point is not too many.
	f.Glyphs[3].Parts = f.Glyphs[3].Parts[:1000]
	if flat, err := compose.Flat(f, 3); len(flat.Points) != 1000 || err != api.OK || flat.Ends[999] != 999 {
		t.Errorf("Flat: %d points, %v", len(flat.Points), err)
	}
}
