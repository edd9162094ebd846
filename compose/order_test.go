package compose_test

import (
	"slices"
	"testing"

	"fleuron/api"
	"fleuron/compose"
)

// wantOrder is what P4.1 says, by its words.
func wantOrder(f api.Font) ([]int, int, api.Errno) {
	for glyph := range f.Glyphs {
		if partOf(f, glyph)[glyph] {
			return nil, glyph, api.ErrLoop
		}
	}
	var order []int
	for range f.Glyphs {
		for glyph := range f.Glyphs {
			absent := func(p api.Part) bool { return !slices.Contains(order, p.Glyph) }
			if !slices.Contains(order, glyph) && !slices.ContainsFunc(partsOf(f, glyph), absent) {
				order = append(order, glyph)
				break
			}
		}
	}
	return order, 0, api.OK
}

// holdOrder holds Order against what is wanted.
func holdOrder(t *testing.T, f api.Font, order []int, first int, err api.Errno) {
	t.Helper()
	if got, n, e := compose.Order(f); !slices.Equal(got, order) || n != first || e != err {
		t.Errorf("Order of %v = %v, %d, %v, want %v, %d, %v", f.Glyphs, got, n, e, order, first, err)
	}
}

// P4.1: all glyphs, each once, and each behind its parts: one by one the least one that may stand there.
func TestOrder(t *testing.T) {
	for _, x := range []struct {
		f     api.Font
		order []int
	}{
		{api.Font{}, nil},
		{font(nil), parts(0)},
		{font(nil, nil, nil), parts(0, 1, 2)},
		{font(parts(1, 2), parts(2), nil), parts(2, 1, 0)},
		{font(nil, parts(0), parts(1)), parts(0, 1, 2)},
		{font(parts(2), nil, nil), parts(1, 2, 0)}, // 0 stands there as soon as it may
		{font(parts(1), nil, nil), parts(1, 0, 2)}, // ahead of 2, which may stand there all the time
		{font(parts(3), parts(4), nil, nil, nil), parts(2, 3, 0, 4, 1)},
		{font(parts(4), nil, parts(1), parts(2), parts(1)), parts(1, 2, 3, 4, 0)},
		{font(parts(2, 2, 2), parts(2, 2), nil), parts(2, 0, 1)},               // the same part several times
		{font(parts(-1, 3, 4, most, least), parts(0, 3), nil), parts(0, 1, 2)}, // parts that there are not
		{font(parts(-1, 1, 9, 1), nil), parts(1, 0)},
		{font(parts(1), parts(2), parts(3), parts(4), parts(5), parts(6), nil), parts(6, 5, 4, 3, 2, 1, 0)}, // however deep
		{font(parts(5), parts(5), parts(5), parts(5), parts(5), nil), parts(5, 0, 1, 2, 3, 4)},              // one that is part of many
	} {
		holdOrder(t, x.f, x.order, 0, api.OK)
	}
}

// P4.1: the first glyph that is part of itself, at once or by way of others: not one that only comes to a loop.
func TestOrderOfLoops(t *testing.T) {
	for _, x := range []struct {
		f     api.Font
		first int
	}{
		{font(parts(0)), 0},
		{font(parts(1), parts(1)), 1},
		{font(nil, parts(1)), 1},
		{font(nil, parts(2), parts(1)), 1},
		{font(parts(2), parts(0), parts(1)), 0},
		{font(parts(1), parts(2), parts(3), parts(3)), 3},
		{font(parts(3), parts(2), parts(1), parts(3)), 1}, // the first one, though 0 comes to another
		{font(parts(4), parts(3), nil, parts(3, 3), parts(4)), 3},
		{font(parts(5), nil, parts(4), parts(2), parts(3), parts(2)), 2},
		{font(parts(1, 4), nil, parts(0, 3), parts(2), parts(4, 9, -1)), 2},
		{font(parts(3), parts(0), nil, parts(4), parts(5), parts(3, 1)), 0},                          // one round by way of two
		{font(parts(6), parts(6), parts(3), parts(1), parts(5), parts(4, 2), parts(7), parts(7)), 4}, // between two loops
	} {
		holdOrder(t, x.f, nil, x.first, api.ErrLoop)
	}
}

// P4.1: parts whose glyph there is not make no loop, and hold none up.
func TestOrderWithoutParts(t *testing.T) {
	f := font(parts(2), parts(2), parts(0))
	holdOrder(t, f, nil, 0, api.ErrLoop)
	f.Glyphs = f.Glyphs[:2]
	holdOrder(t, f, parts(0, 1), 0, api.OK)
}
