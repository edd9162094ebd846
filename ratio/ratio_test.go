package ratio_test

import (
	"math"
	"math/big"
	"testing"

	"fleuron/api"
	"fleuron/ratio"
)

const (
	most  = math.MaxInt64
	least = math.MinInt64
)

// numbers are some about 0, at both ends, about powers of two, and such that have many divisors, or none.
func numbers() []int64 {
	all := []int64{0, 5, 6, 7, 12, 60, 64, 1000, 720720, 614889782588491410, 9223372036854775783, 4294967291, 3037000499, 3037000500, 6074001000}
	for _, bits := range []int{0, 1, 2, 15, 31, 32, 33, 61, 62} {
		power := int64(1) << bits
		all = append(all, power-1, power, power+1)
	}
	all = append(all, most-2, most-1, most)
	for _, n := range all {
		all = append(all, -n)
	}
	return append(all, least, least+1, least+2)
}

// ratios are those of some numbers, and many in between.
func ratios() []api.Ratio {
	var all []api.Ratio
	for i, n := range numbers() {
		for j, d := range numbers() {
			if r, ok := ratio.Make(n, d); ok && (i+2*j)%19 == 0 {
				all = append(all, r)
			}
		}
	}
	return all
}

// wrong are ratios that may not be.
func wrong() []api.Ratio {
	return []api.Ratio{
		{},
		{N: 1, D: 0}, {N: -1, D: 0}, {N: most, D: 0}, {N: least, D: 0},
		{N: 1, D: -1}, {N: 0, D: -1}, {N: -1, D: -2}, {N: 3, D: -2}, {N: 1, D: least}, {N: -3, D: least}, {N: 5, D: -most},
		{N: 0, D: 2}, {N: 0, D: 64}, {N: 0, D: most},
		{N: 2, D: 4}, {N: -2, D: 4}, {N: 6, D: 3}, {N: -6, D: 9}, {N: 15, D: 35}, {N: most, D: most}, {N: -most, D: most}, {N: 1 << 62, D: 1 << 61}, {N: 7, D: most},
		{N: least, D: 1}, {N: least, D: 2}, {N: least, D: 3}, {N: least, D: most}, {N: least, D: least},
	}
}

// exact is a ratio as a number of the library's.
func exact(r api.Ratio) *big.Rat {
	return big.NewRat(r.N, r.D)
}

// of is what is to be told of a number: its ratio, if that may be.
func of(x *big.Rat) (api.Ratio, bool) {
	if !x.Num().IsInt64() || !x.Denom().IsInt64() || x.Num().Int64() == least {
		return api.Ratio{}, false
	}
	return api.Ratio{N: x.Num().Int64(), D: x.Denom().Int64()}, true
}

type reckon struct {
	name string
	call func(a, b api.Ratio) (api.Ratio, bool)
	want func(a, b *big.Rat) *big.Rat // nil: there is none
}

func reckons() []reckon {
	return []reckon{
		{"Add", ratio.Add, func(a, b *big.Rat) *big.Rat { return new(big.Rat).Add(a, b) }},
		{"Sub", ratio.Sub, func(a, b *big.Rat) *big.Rat { return new(big.Rat).Sub(a, b) }},
		{"Mul", ratio.Mul, func(a, b *big.Rat) *big.Rat { return new(big.Rat).Mul(a, b) }},
		{"Div", ratio.Div, func(a, b *big.Rat) *big.Rat {
			if b.Sign() == 0 {
				return nil
			}
			return new(big.Rat).Quo(a, b)
		}},
	}
}

// P2.1: a ratio has its lowest numbers, and its sign in N.
func TestMakeTellsTheNumber(t *testing.T) {
	for _, x := range []struct{ n, d, wantN, wantD int64 }{
		{6, -4, -3, 2},
		{6, 4, 3, 2},
		{-6, 4, -3, 2},
		{-6, -4, 3, 2},
		{1, 1, 1, 1},
		{12, 4, 3, 1},
		{4, 12, 1, 3},
		{35, 15, 7, 3},
		{0, 1, 0, 1},
		{0, 9, 0, 1},
		{0, -9, 0, 1},
		{0, most, 0, 1},
		{0, least, 0, 1},
		{most, 1, most, 1},
		{most, -1, -most, 1},
		{-most, 1, -most, 1},
		{1, most, 1, most},
		{1, -most, -1, most},
		{most, most, 1, 1},
		{most, -most, -1, 1},
		{most, most - 1, most, most - 1},
		{most, 7, most / 7, 1},
		{least, least, 1, 1},
		{least, 2, -1 << 62, 1},
		{least, -2, 1 << 62, 1},
		{least, 6, -1 << 62, 3},
		{least, -6, 1 << 62, 3},
		{least, 1 << 62, -2, 1},
		{2, least, -1, 1 << 62},
		{-2, least, 1, 1 << 62},
		{-6, least, 3, 1 << 62},
		{1 << 62, least, -1, 2},
	} {
		if got, ok := ratio.Make(x.n, x.d); !ok || got != (api.Ratio{N: x.wantN, D: x.wantD}) {
			t.Errorf("Make(%d, %d) = %v, %t; want %d by %d", x.n, x.d, got, ok, x.wantN, x.wantD)
		}
	}
}

// P2.1: of 0 as a divisor, and where N or D would not fit, there is none.
func TestMakeTellsNone(t *testing.T) {
	for _, x := range [][2]int64{
		{0, 0}, {1, 0}, {-1, 0}, {most, 0}, {least, 0},
		{least, 1}, {least, -1}, {least, 3}, {least, -3}, {least, most}, {least, -most},
		{1, least}, {-1, least}, {3, least}, {-5, least}, {most, least}, {-most, least},
	} {
		if got, ok := ratio.Make(x[0], x[1]); ok || got != (api.Ratio{}) {
			t.Errorf("Make(%d, %d) = %v, %t", x[0], x[1], got, ok)
		}
	}
}

// P2.1: of all numbers, the same as the library's.
func TestMakeOfAllNumbers(t *testing.T) {
	for _, n := range numbers() {
		for _, d := range numbers() {
			var want api.Ratio
			var there bool
			if d != 0 {
				want, there = of(big.NewRat(n, d))
			}
			if got, ok := ratio.Make(n, d); ok != there || got != want {
				t.Errorf("Make(%d, %d) = %v, %t; want %v, %t", n, d, got, ok, want, there)
			}
		}
	}
}

// P2.2: sums, differences, products and quotients, up to those that just fit.
func TestReckonedTellsTheNumber(t *testing.T) {
	for _, x := range []struct {
		call       int // of reckons
		a, b, want api.Ratio
	}{
		{0, api.Ratio{N: 1, D: 2}, api.Ratio{N: 1, D: 3}, api.Ratio{N: 5, D: 6}},
		{0, api.Ratio{N: 1, D: 6}, api.Ratio{N: 1, D: 10}, api.Ratio{N: 4, D: 15}},
		{0, api.Ratio{N: 1, D: 6}, api.Ratio{N: 1, D: 3}, api.Ratio{N: 1, D: 2}},
		{0, api.Ratio{N: 1, D: 2}, api.Ratio{N: -1, D: 2}, api.Ratio{N: 0, D: 1}},
		{0, api.Ratio{N: 0, D: 1}, api.Ratio{N: 0, D: 1}, api.Ratio{N: 0, D: 1}},
		{0, api.Ratio{N: -1, D: 2}, api.Ratio{N: -1, D: 2}, api.Ratio{N: -1, D: 1}},
		{0, api.Ratio{N: most - 1, D: 1}, api.Ratio{N: 1, D: 1}, api.Ratio{N: most, D: 1}},
		{0, api.Ratio{N: 1 - most, D: 1}, api.Ratio{N: -1, D: 1}, api.Ratio{N: -most, D: 1}},
		{0, api.Ratio{N: most, D: 2}, api.Ratio{N: most, D: 2}, api.Ratio{N: most, D: 1}},
		{0, api.Ratio{N: most, D: most - 1}, api.Ratio{N: -most, D: most - 1}, api.Ratio{N: 0, D: 1}},
		{0, api.Ratio{N: most - 2, D: most - 1}, api.Ratio{N: 1, D: most - 1}, api.Ratio{N: 1, D: 1}},
		{0, api.Ratio{N: 1, D: 3037000499}, api.Ratio{N: 1, D: 3037000498}, api.Ratio{N: 6074000997, D: 3037000499 * 3037000498}},
		{1, api.Ratio{N: 1, D: 2}, api.Ratio{N: 1, D: 3}, api.Ratio{N: 1, D: 6}},
		{1, api.Ratio{N: 1, D: 3}, api.Ratio{N: 1, D: 2}, api.Ratio{N: -1, D: 6}},
		{1, api.Ratio{N: -most, D: 1}, api.Ratio{N: -most, D: 1}, api.Ratio{N: 0, D: 1}},
		{1, api.Ratio{N: 0, D: 1}, api.Ratio{N: most, D: 1}, api.Ratio{N: -most, D: 1}},
		{1, api.Ratio{N: most - 1, D: 1}, api.Ratio{N: -1, D: 1}, api.Ratio{N: most, D: 1}},
		{2, api.Ratio{N: 2, D: 3}, api.Ratio{N: 3, D: 4}, api.Ratio{N: 1, D: 2}},
		{2, api.Ratio{N: -2, D: 3}, api.Ratio{N: 3, D: 2}, api.Ratio{N: -1, D: 1}},
		{2, api.Ratio{N: -2, D: 3}, api.Ratio{N: -6, D: 5}, api.Ratio{N: 4, D: 5}},
		{2, api.Ratio{N: 0, D: 1}, api.Ratio{N: -7, D: 5}, api.Ratio{N: 0, D: 1}},
		{2, api.Ratio{N: most, D: most - 1}, api.Ratio{N: most - 1, D: most}, api.Ratio{N: 1, D: 1}},
		{2, api.Ratio{N: 3037000499, D: 1}, api.Ratio{N: 3037000499, D: 1}, api.Ratio{N: 9223372030926249001, D: 1}},
		{2, api.Ratio{N: most / 7, D: 1}, api.Ratio{N: 7, D: 1}, api.Ratio{N: most, D: 1}},
		{2, api.Ratio{N: 1, D: most / 7}, api.Ratio{N: -1, D: 7}, api.Ratio{N: -1, D: most}},
		{3, api.Ratio{N: 1, D: 2}, api.Ratio{N: 3, D: 4}, api.Ratio{N: 2, D: 3}},
		{3, api.Ratio{N: 1, D: 2}, api.Ratio{N: -3, D: 4}, api.Ratio{N: -2, D: 3}},
		{3, api.Ratio{N: -5, D: 1}, api.Ratio{N: -5, D: 1}, api.Ratio{N: 1, D: 1}},
		{3, api.Ratio{N: 0, D: 1}, api.Ratio{N: -3, D: 4}, api.Ratio{N: 0, D: 1}},
		{3, api.Ratio{N: 1, D: 1}, api.Ratio{N: -most, D: 1}, api.Ratio{N: -1, D: most}},
		{3, api.Ratio{N: -1, D: 1}, api.Ratio{N: 1, D: most}, api.Ratio{N: -most, D: 1}},
		{3, api.Ratio{N: most, D: 2}, api.Ratio{N: most, D: 3}, api.Ratio{N: 3, D: 2}},
	} {
		r := reckons()[x.call]
		if got, ok := r.call(x.a, x.b); !ok || got != x.want {
			t.Errorf("%s(%v, %v) = %v, %t; want %v", r.name, x.a, x.b, got, ok, x.want)
		}
	}
}

// P2.2: numbers that just do not fit, and quotients by 0, are none.
func TestReckonedTellsNone(t *testing.T) {
	for _, x := range []struct {
		call int
		a, b api.Ratio
	}{
		{0, api.Ratio{N: most, D: 1}, api.Ratio{N: 1, D: 1}},
		{0, api.Ratio{N: -most, D: 1}, api.Ratio{N: -1, D: 1}}, // -2^63 fits into 64 bits, but is no N
		{0, api.Ratio{N: most, D: 1}, api.Ratio{N: most, D: 1}},
		{0, api.Ratio{N: most, D: 1}, api.Ratio{N: 1, D: 2}},
		{0, api.Ratio{N: 1, D: most}, api.Ratio{N: 1, D: 2}},
		{0, api.Ratio{N: 1, D: 1 << 62}, api.Ratio{N: 1, D: 3}},
		{0, api.Ratio{N: 1, D: 3037000500}, api.Ratio{N: 1, D: 3037000501}}, // D goes just above 2^63
		{0, api.Ratio{N: most, D: most - 1}, api.Ratio{N: most - 1, D: most}},
		{1, api.Ratio{N: -most, D: 1}, api.Ratio{N: 1, D: 1}},
		{1, api.Ratio{N: -most, D: 1}, api.Ratio{N: most, D: 1}},
		{1, api.Ratio{N: most, D: 1}, api.Ratio{N: -1, D: most}},
		{2, api.Ratio{N: 1 << 62, D: 1}, api.Ratio{N: 2, D: 1}},
		{2, api.Ratio{N: 1 << 62, D: 1}, api.Ratio{N: -2, D: 1}},
		{2, api.Ratio{N: 1 << 32, D: 1}, api.Ratio{N: 1 << 32, D: 1}},
		{2, api.Ratio{N: 1, D: 1 << 62}, api.Ratio{N: 1, D: 2}},
		{2, api.Ratio{N: 1, D: 1 << 32}, api.Ratio{N: 1, D: 1 << 32}},
		{2, api.Ratio{N: 3037000500, D: 1}, api.Ratio{N: 3037000500, D: 1}},
		{2, api.Ratio{N: most, D: 1}, api.Ratio{N: most, D: 1}},
		{3, api.Ratio{N: most, D: 1}, api.Ratio{N: 1, D: 2}},
		{3, api.Ratio{N: 1, D: most}, api.Ratio{N: 2, D: 1}},
		{3, api.Ratio{N: 1 << 62, D: 1}, api.Ratio{N: -1, D: 2}},
		{3, api.Ratio{N: 1, D: 1}, api.Ratio{N: 0, D: 1}},
		{3, api.Ratio{N: 0, D: 1}, api.Ratio{N: 0, D: 1}},
		{3, api.Ratio{N: -most, D: 1}, api.Ratio{N: 0, D: 1}},
	} {
		r := reckons()[x.call]
		if got, ok := r.call(x.a, x.b); ok || got != (api.Ratio{}) {
			t.Errorf("%s(%v, %v) = %v, %t", r.name, x.a, x.b, got, ok)
		}
	}
}

// P2.2, P2.3: of many ratios, the same as the library's, whatever their numbers are on the way.
func TestReckonedOfManyRatios(t *testing.T) {
	all := ratios()
	for _, a := range all {
		for _, b := range all {
			x, y := exact(a), exact(b)
			for _, r := range reckons() {
				var want api.Ratio
				var there bool
				if number := r.want(x, y); number != nil {
					want, there = of(number)
				}
				if got, ok := r.call(a, b); ok != there || got != want {
					t.Fatalf("%s(%v, %v) = %v, %t; want %v, %t", r.name, a, b, got, ok, want, there)
				}
			}
			if got, want := ratio.Cmp(a, b), x.Cmp(y); got != want {
				t.Fatalf("Cmp(%v, %v) = %d, want %d", a, b, got, want)
			}
		}
	}
}

// P2.3: less, the same, and more; also where the products of N and D do not fit.
func TestCmpHoldsAgainst(t *testing.T) {
	for _, x := range []struct {
		a, b api.Ratio
		want int
	}{
		{api.Ratio{N: 1, D: 2}, api.Ratio{N: 1, D: 3}, 1},
		{api.Ratio{N: -1, D: 2}, api.Ratio{N: -1, D: 3}, -1},
		{api.Ratio{N: -1, D: 2}, api.Ratio{N: 1, D: 2}, -1},
		{api.Ratio{N: 0, D: 1}, api.Ratio{N: 0, D: 1}, 0},
		{api.Ratio{N: 0, D: 1}, api.Ratio{N: 1, D: most}, -1},
		{api.Ratio{N: 0, D: 1}, api.Ratio{N: -1, D: most}, 1},
		{api.Ratio{N: 7, D: 5}, api.Ratio{N: 7, D: 5}, 0},
		{api.Ratio{N: -7, D: 5}, api.Ratio{N: -7, D: 5}, 0},
		{api.Ratio{N: most, D: 1}, api.Ratio{N: -most, D: 1}, 1},
		{api.Ratio{N: most, D: most - 1}, api.Ratio{N: most - 1, D: most - 2}, -1},
		{api.Ratio{N: most - 1, D: most}, api.Ratio{N: most - 2, D: most - 1}, 1},
		{api.Ratio{N: most, D: most - 1}, api.Ratio{N: most, D: most - 1}, 0},
		{api.Ratio{N: -most, D: most - 1}, api.Ratio{N: -most, D: most - 1}, 0},
		{api.Ratio{N: 1 << 62, D: 3}, api.Ratio{N: 1, D: 3}, 1},
	} {
		if got, back := ratio.Cmp(x.a, x.b), ratio.Cmp(x.b, x.a); got != x.want || back != -x.want {
			t.Errorf("Cmp(%v, %v) = %d, and %d the other way, want %d", x.a, x.b, got, back, x.want)
		}
	}
}

// Of ratios that may not be, on either side, nothing is told.
func TestWrongRatiosTellNothing(t *testing.T) {
	right := []api.Ratio{{N: 0, D: 1}, {N: 1, D: 1}, {N: -1, D: 2}, {N: 1, D: most}, {N: most, D: 1}, {N: -3, D: 2}}
	for _, bad := range wrong() {
		for _, other := range append(right, wrong()...) {
			for _, pair := range [][2]api.Ratio{{bad, other}, {other, bad}} {
				for _, r := range reckons() {
					if got, ok := r.call(pair[0], pair[1]); ok || got != (api.Ratio{}) {
						t.Errorf("%s(%v, %v) = %v, %t", r.name, pair[0], pair[1], got, ok)
					}
				}
				if got := ratio.Cmp(pair[0], pair[1]); got != 0 {
					t.Errorf("Cmp(%v, %v) = %d", pair[0], pair[1], got)
				}
			}
		}
		if floor, round := ratio.Floor(bad), ratio.Round(bad); floor != 0 || round != 0 {
			t.Errorf("Floor(%v) = %d, Round %d", bad, floor, round)
		}
	}
}

// P2.6: sums and products are the same in whichever way they are put together, and are undone.
func TestReckonedInAnyWay(t *testing.T) {
	var all []api.Ratio
	for n := int64(-6); n <= 6; n += 2 {
		for d := int64(1); d <= 9; d += 2 {
			r, _ := ratio.Make(n+d%3, d*5)
			all = append(all, r)
		}
	}
	must := func(r api.Ratio, ok bool) api.Ratio {
		t.Helper()
		if !ok {
			t.Fatal("nothing is told")
		}
		return r
	}
	for i, a := range all {
		for j, b := range all {
			sum, product := must(ratio.Add(a, b)), must(ratio.Mul(a, b))
			if got := must(ratio.Sub(sum, b)); got != a {
				t.Errorf("%v and %v less that: %v", a, b, got)
			}
			if b.N != 0 && must(ratio.Div(product, b)) != a {
				t.Errorf("%v times %v by that is another one", a, b)
			}
			c := all[(i+3*j)%len(all)]
			if must(ratio.Add(sum, c)) != must(ratio.Add(a, must(ratio.Add(c, b)))) {
				t.Errorf("the sums of %v, %v, %v are not the same", a, b, c)
			}
			if must(ratio.Mul(product, c)) != must(ratio.Mul(a, must(ratio.Mul(c, b)))) {
				t.Errorf("the products of %v, %v, %v are not the same", a, b, c)
			}
			if must(ratio.Mul(sum, c)) != must(ratio.Add(must(ratio.Mul(a, c)), must(ratio.Mul(b, c)))) {
				t.Errorf("%v times the sum of %v and %v is not the sum of the products", c, a, b)
			}
		}
	}
}
