package ratio_test

import (
	"math/big"
	"testing"

	"fleuron/api"
	"fleuron/ratio"
)

// rounded is the greatest whole number that is not above x and a half.
func rounded(x *big.Rat) *big.Int {
	return floored(new(big.Rat).Add(x, big.NewRat(1, 2)))
}

// floored is the greatest whole number that is not above x: the library cuts so, as a divisor is above 0.
func floored(x *big.Rat) *big.Int {
	return new(big.Int).Div(x.Num(), x.Denom())
}

// P2.4: whole numbers that are not above a ratio, and not above it and a half.
func TestFloorAndRound(t *testing.T) {
	for _, x := range []struct{ n, d, floor, round int64 }{
		{-3, 2, -2, -1},
		{3, 2, 1, 2},
		{-1, 2, -1, 0},
		{1, 2, 0, 1},
		{-5, 2, -3, -2},
		{5, 2, 2, 3},
		{0, 1, 0, 0},
		{7, 1, 7, 7},
		{-7, 1, -7, -7},
		{1, 3, 0, 0},
		{2, 3, 0, 1},
		{-1, 3, -1, 0},
		{-2, 3, -1, -1},
		{-4, 3, -2, -1},
		{-5, 3, -2, -2},
		{31, 64, 0, 0},
		{33, 64, 0, 1},
		{-31, 64, -1, 0},
		{-33, 64, -1, -1},
		{1, most, 0, 0},
		{-1, most, -1, 0},
		{most, 1, most, most},
		{-most, 1, -most, -most},
		{most, 2, most / 2, most/2 + 1},
		{-most, 2, -most/2 - 1, -most / 2},
		{most - 1, most, 0, 1},
		{1 - most, most, -1, -1},
		{most / 2, most, 0, 0},
		{most/2 + 1, most, 0, 1},
		{-(most / 2), most, -1, 0},
		{-(most/2 + 1), most, -1, -1},
		{most/2 + 2, most - 1, 0, 1},
		{-(most/2 + 2), most - 1, -1, -1},
	} {
		a := api.Ratio{N: x.n, D: x.d}
		if floor, round := ratio.Floor(a), ratio.Round(a); floor != x.floor || round != x.round {
			t.Errorf("of %d by %d: Floor %d, Round %d; want %d, %d", x.n, x.d, floor, round, x.floor, x.round)
		}
	}
}

// P2.4: of many ratios, the same as the library's.
func TestFloorAndRoundOfManyRatios(t *testing.T) {
	for _, a := range ratios() {
		floor, round := floored(exact(a)).Int64(), rounded(exact(a)).Int64()
		if x, y := ratio.Floor(a), ratio.Round(a); x != floor || y != round {
			t.Errorf("of %v: Floor %d, Round %d; want %d, %d", a, x, y, floor, round)
		}
	}
}

// P2.5: n times a by b, and a half, cut; also where that product does not fit on the way.
func TestScaleTellsTheWholeNumber(t *testing.T) {
	for _, x := range []struct{ n, a, b, want int64 }{
		{7, 1, 2, 4},
		{-7, 1, 2, -3},
		{7, -1, 2, -3},
		{7, 1, -2, -3},
		{-7, -1, 2, 4},
		{7, -1, -2, 4},
		{-7, 1, -2, 4},
		{-7, -1, -2, -3},
		{1, 1, 2, 1},
		{-1, 1, 2, 0},
		{1, 1, 3, 0},
		{2, 1, 3, 1},
		{-1, 1, 3, 0},
		{-2, 1, 3, -1},
		{500, 640, 1000, 320},
		{-8, 64, 1000, -1},
		{8, 64, 1000, 1},
		{0, 5, 7, 0},
		{5, 0, -7, 0},
		{0, least, least, 0},
		{most, most, most, most},
		{most, -most, most, -most},
		{most, most - 1, most, most - 1},
		{most, 1 << 40, 1 << 41, 1 << 62},
		{-most, 1 << 40, 1 << 41, -(most / 2)},
		{most, 2, 2, most},
		{most, 1, 1, most},
		{least, 1, 1, least},
		{1, least, 1, least},
		{least, -1, -1, least},
		{most, -1, 1, -most},
		{least, least, least, least},
		{least, most, least, most},
		{most, least, most, least},
		{most, -most, most - 1, least}, // less than a half below
		{least, 1, least, 1},
		{1, 1, least, 0},
		{1 << 62, 1, least, 0},
		{-(1 << 62), 1, least, 1},
		{-(1<<62 - 1), 1, least, 0},
		{1<<62 + 1, 1, least, -1},
		{most, 1, least, -1},
		{50557, 364870227143809, 2, most},        // 2^64 - 3 by 2
		{-4294967295, 4294967297, 2, -most},      // 1 - 2^64 by 2
		{-274177, 67280421310721, 2, least},      // -2^64 - 1 by 2
		{274177, 67280421310721, -2, least},      // the same
		{-274177, -67280421310721, 4, 1 << 62},   // 2^64 + 1 by 4
		{274177, -67280421310721, 4, -(1 << 62)}, // less than a half below
		{3037000499, 3037000499, 1, 9223372030926249001},
	} {
		if got, ok := ratio.Scale(x.n, x.a, x.b); !ok || got != x.want {
			t.Errorf("Scale(%d, %d, %d) = %d, %t; want %d", x.n, x.a, x.b, got, ok, x.want)
		}
	}
}

// P2.5: by 0 there is nothing, nor what does not fit.
func TestScaleTellsNone(t *testing.T) {
	for _, x := range [][3]int64{
		{0, 0, 0}, {1, 1, 0}, {-1, 1, 0}, {0, 5, 0}, {most, most, 0}, {least, least, 0},
		{most, most, most - 1}, {-most, -most, most - 1},
		{least, -1, 1}, {least, 1, -1}, {-1, least, 1}, {1, least, -1},
		{most, 2, 1}, {least, 2, 1}, {1 << 62, 2, 1}, {1 << 62, 4, 2},
		{1 << 32, 1 << 32, 1}, {1 << 32, -(1 << 32), 1}, {1 << 62, 1 << 62, 1}, {least, least, 1}, {least, least, 2}, {least, least, -2},
		{least, least, most}, {least, least, -most}, {most, most, 1}, {most, least, -most}, {most, least, -1},
		{4294967295, 4294967297, 2},   // 2^64 - 1 by 2, and a half: 2^63
		{-4294967295, -4294967297, 2}, // the same
		{4294967295, -4294967297, -2}, // the same
		{274177, 67280421310721, 2},   // 2^64 + 1 by 2
		{3037000500, 3037000500, 1},   // just above 2^63
		{-3037000500, 3037000500, 1},
	} {
		if got, ok := ratio.Scale(x[0], x[1], x[2]); ok || got != 0 {
			t.Errorf("Scale(%d, %d, %d) = %d, %t", x[0], x[1], x[2], got, ok)
		}
	}
}

// P2.5: of all numbers, the same as the library's.
func TestScaleOfAllNumbers(t *testing.T) {
	for _, n := range numbers() {
		for _, a := range numbers() {
			product := new(big.Int).Mul(big.NewInt(n), big.NewInt(a))
			for _, b := range numbers() {
				var want int64
				var there bool
				if b != 0 {
					whole := rounded(new(big.Rat).SetFrac(product, big.NewInt(b)))
					if there = whole.IsInt64(); there {
						want = whole.Int64()
					}
				}
				if got, ok := ratio.Scale(n, a, b); ok != there || got != want {
					t.Fatalf("Scale(%d, %d, %d) = %d, %t; want %d, %t", n, a, b, got, ok, want, there)
				}
			}
		}
	}
}

// P2.6: a whole number is its own Floor and Round; by 1, Scale is the product.
func TestWholeNumbersStay(t *testing.T) {
	for _, n := range numbers() {
		if n != least {
			a := api.Ratio{N: n, D: 1}
			if floor, round := ratio.Floor(a), ratio.Round(a); floor != n || round != n {
				t.Errorf("of %d: Floor %d, Round %d", n, floor, round)
			}
		}
		if got, ok := ratio.Scale(n, 1, 1); !ok || got != n {
			t.Errorf("Scale(%d, 1, 1) = %d, %t", n, got, ok)
		}
	}
	for n := int64(-40); n <= 40; n++ {
		for a := int64(-40); a <= 40; a++ {
			if got, ok := ratio.Scale(n, a, 1); !ok || got != n*a {
				t.Errorf("Scale(%d, %d, 1) = %d, %t", n, a, got, ok)
			}
		}
	}
}

// P2.6: Scale tells what Round tells of the ratio.
func TestScaleIsRoundOfTheRatio(t *testing.T) {
	for n := int64(-30); n <= 30; n++ {
		for b := int64(-9); b <= 9; b++ {
			a, ok := ratio.Make(7*n, b)
			got, there := ratio.Scale(n, 7, b)
			if ok != there || got != ratio.Round(a) {
				t.Errorf("Scale(%d, 7, %d) = %d, %t; Round of %v is %d", n, b, got, there, a, ratio.Round(a))
			}
		}
	}
}
