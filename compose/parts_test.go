package compose

import (
	"slices"
	"testing"

	"fleuron/api"
)

// R1: what is told one by one may be left off anywhere, and gone over again.
func TestWithinIsLeftOffAndGoneOverAgain(t *testing.T) {
	glyphs := make([]api.Glyph, 20)
	for glyph := range 19 {
		glyphs[glyph].Parts = []api.Part{{Glyph: glyph + 1}, {Glyph: 20}, {Glyph: glyph / 2}}
	}
	all := within(glyphs, 0)
	want := slices.Collect(all)
	if len(want) != 20 {
		t.Fatalf("%v", want)
	}
	for leave := range want {
		var told []int
		for glyph := range all {
			told = append(told, glyph)
			if len(told) > leave {
				break
			}
		}
		if !slices.Equal(told, want[:leave+1]) {
			t.Errorf("left off behind %d: %v", leave, told)
		}
	}
	for range parts(glyphs, 3) {
		break
	}
	if got := slices.Collect(parts(glyphs, 3)); len(got) != 2 {
		t.Errorf("parts are %v", got)
	}
}
