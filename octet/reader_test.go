package octet_test

import (
	"math"
	"strings"
	"testing"

	"fleuron/octet"
)

// stands tells what is wrong with how a Reader stands.
func stands(t *testing.T, what string, r *octet.Reader, at, left int, failed bool) {
	t.Helper()
	if r.At() != at || r.Left() != left || r.Failed() != failed {
		t.Errorf("%s: at %d, left %d, failed %t; want %d, %d, %t", what, r.At(), r.Left(), r.Failed(), at, left, failed)
	}
}

// tellsNothing is that each reading call of a Reader that has failed tells nothing, and leaves it as it stands.
func tellsNothing(t *testing.T, what string, r *octet.Reader) {
	t.Helper()
	at, left := r.At(), r.Left()
	for _, n := range []int{0, 1, 2, 3, 8, -1, 9, math.MinInt, math.MaxInt} {
		if a, b, s := r.Num(n), r.Int(n), r.Take(n); a != 0 || b != 0 || s != "" {
			t.Errorf("%s: Num(%d) %d, Int %d, Take %q", what, n, a, b, s)
		}
	}
	if s := r.Text(); s != "" {
		t.Errorf("%s: Text %q", what, s)
	}
	stands(t, what, r, at, left, true)
}

// P1.2: at first a Reader stands ahead of all its bytes.
func TestReadStandsAheadOfItsBytes(t *testing.T) {
	for _, s := range []string{"", "\x00", "abc", strings.Repeat("x", 70000)} {
		stands(t, "Read", octet.Read(s), 0, len(s), false)
	}
}

// P1.2: Take tells the bytes from its place on, and goes behind them.
func TestTakeGoesBehindWhatItTakes(t *testing.T) {
	r := octet.Read("ab\x00\xffef")
	for _, x := range []struct {
		n    int
		want string
		at   int
	}{{0, "", 0}, {1, "a", 1}, {3, "b\x00\xff", 4}, {0, "", 4}, {2, "ef", 6}, {0, "", 6}} {
		if got := r.Take(x.n); got != x.want {
			t.Errorf("Take(%d) = %q, want %q", x.n, got, x.want)
		}
		stands(t, "Take", r, x.at, 6-x.at, false)
	}
}

// P1.2: Take fails, if n is below 0, or there are not so many bytes.
func TestTakeFails(t *testing.T) {
	for _, n := range []int{-1, -2, math.MinInt, 4, 5, math.MaxInt, math.MaxInt - 1} {
		r := octet.Read("abcdef")
		r.Take(3)
		if got := r.Take(n); got != "" {
			t.Errorf("Take(%d) = %q", n, got)
		}
		stands(t, "Take", r, 3, 3, true)
		tellsNothing(t, "behind Take", r)
	}
}

// P1.2: numbers of each size, without a sign and with one.
func TestNumAndIntOfEachSize(t *testing.T) {
	for _, x := range []struct {
		s        string
		num, int int64
	}{
		{"", 0, 0},
		{"\x00", 0, 0},
		{"\x7f", 127, 127},
		{"\x80", 128, -128},
		{"\xff", 255, -1},
		{"\x01\x02", 258, 258},
		{"\x7f\xff", 32767, 32767},
		{"\x80\x00", 32768, -32768},
		{"\x00\x80", 128, 128},
		{"\x80\x00\x00", 1 << 23, -1 << 23},
		{"\x7f\xff\xff", 1<<23 - 1, 1<<23 - 1},
		{"\x80\x00\x00\x01", 1<<31 + 1, -1<<31 + 1},
		{"\xff\xff\xff\xff", 1<<32 - 1, -1},
		{"\xff\xff\xff\xff\xfe", 1<<40 - 2, -2},
		{"\x80\x00\x00\x00\x00\x00", 1 << 47, -1 << 47},
		{"\x01\x23\x45\x67\x89\xab\xcd", 0x0123456789abcd, 0x0123456789abcd},
		{"\x80\x00\x00\x00\x00\x00\x00", 1 << 55, -1 << 55},
		{"\xff\xff\xff\xff\xff\xff\xff", 1<<56 - 1, -1},
		{"\x7f\xff\xff\xff\xff\xff\xff\xff", math.MaxInt64, math.MaxInt64},
		{"\x80\x00\x00\x00\x00\x00\x00\x00", math.MinInt64, math.MinInt64},
		{"\xff\xff\xff\xff\xff\xff\xff\xff", -1, -1},
		{"\x01\x23\x45\x67\x89\xab\xcd\xef", 0x0123456789abcdef, 0x0123456789abcdef},
	} {
		size := len(x.s)
		r := octet.Read("z" + x.s + x.s + "\xff\xff")
		r.Take(1)
		if got := r.Num(size); got != x.num {
			t.Errorf("Num(%d) of %x = %d, want %d", size, x.s, got, x.num)
		}
		stands(t, "Num", r, 1+size, size+2, false)
		if got := r.Int(size); got != x.int {
			t.Errorf("Int(%d) of %x = %d, want %d", size, x.s, got, x.int)
		}
		stands(t, "Int", r, 1+2*size, 2, false)
	}
}

// P1.2: a number of no bytes is 0, where there are none as well.
func TestNumbersOfNoBytes(t *testing.T) {
	for _, s := range []string{"", "\xff"} {
		r := octet.Read(s)
		if a, b := r.Num(0), r.Int(0); a != 0 || b != 0 {
			t.Errorf("Num(0) %d, Int(0) %d", a, b)
		}
		stands(t, "of no bytes", r, 0, len(s), false)
	}
}

// P1.2: Num and Int fail, if size is not 0 to 8, however many bytes there are.
func TestNumbersOfWrongSizesFail(t *testing.T) {
	for _, size := range wrongSizes() {
		for name, read := range map[string]func(*octet.Reader, int) int64{"Num": (*octet.Reader).Num, "Int": (*octet.Reader).Int} {
			r := octet.Read(strings.Repeat("\xff", 100))
			r.Take(7)
			if got := read(r, size); got != 0 {
				t.Errorf("%s(%d) = %d", name, size, got)
			}
			stands(t, name, r, 7, 93, true)
			tellsNothing(t, "behind "+name, r)
		}
	}
}

// P1.2: Num and Int fail, if there is one byte too few, or none.
func TestNumbersOfTooFewBytesFail(t *testing.T) {
	for size := 1; size <= 8; size++ {
		for _, there := range []int{0, size - 1} {
			for name, read := range map[string]func(*octet.Reader, int) int64{"Num": (*octet.Reader).Num, "Int": (*octet.Reader).Int} {
				r := octet.Read("ab" + strings.Repeat("\xff", there))
				r.Take(2)
				if got := read(r, size); got != 0 {
					t.Errorf("%s(%d) of %d bytes = %d", name, size, there, got)
				}
				stands(t, name, r, 2, there, true)
				tellsNothing(t, "behind "+name, r)
			}
		}
	}
}

// P1.2: Text tells as many bytes as a number of two bytes says.
func TestTextTellsAsManyBytesAsItsNumber(t *testing.T) {
	long := strings.Repeat("q", 33000)
	r := octet.Read("\x00\x03abc\x00\x00\x00\x01\xff\x80\xe8" + long + "d")
	for _, x := range []struct {
		want string
		at   int
	}{{"abc", 5}, {"", 7}, {"\xff", 10}, {long, 33012}} {
		if got := r.Text(); got != x.want {
			t.Errorf("Text() has %d bytes, want %d", len(got), len(x.want))
		}
		stands(t, "Text", r, x.at, 33013-x.at, false)
	}
}

// P1.2: where the number or its bytes are not there, Text stays ahead of both.
func TestTextStaysAheadOfItsNumberIfItFails(t *testing.T) {
	for _, s := range []string{"", "\x00", "\x00\x01", "\x00\x05abcd", "\x01\x00abcd", "\xff\xff" + strings.Repeat("x", 65534)} {
		r := octet.Read("ab" + s)
		r.Num(2)
		if got := r.Text(); got != "" {
			t.Errorf("Text of %d bytes = %q", len(s), got)
		}
		stands(t, "Text", r, 2, len(s), true)
		tellsNothing(t, "behind Text", r)
	}
}

// P1.2: a nil Reader has no bytes, and has failed.
func TestANilReaderHasFailed(t *testing.T) {
	var r *octet.Reader
	stands(t, "nil", r, 0, 0, true)
	tellsNothing(t, "nil", r)
}

// P1.2: a Reader that Read did not make is as one of no bytes, that has not failed yet.
func TestAReaderThatReadDidNotMakeHasNoBytes(t *testing.T) {
	var r octet.Reader
	stands(t, "at first", &r, 0, 0, false)
	if a, b, s := r.Num(0), r.Int(0), r.Take(0); a != 0 || b != 0 || s != "" {
		t.Errorf("of none: %d, %d, %q", a, b, s)
	}
	stands(t, "behind nothing", &r, 0, 0, false)
	for name, read := range map[string]func(*octet.Reader){
		"Num":        func(r *octet.Reader) { r.Num(1) },
		"Int":        func(r *octet.Reader) { r.Int(1) },
		"Take":       func(r *octet.Reader) { r.Take(1) },
		"Take of -1": func(r *octet.Reader) { r.Take(-1) },
		"Text":       func(r *octet.Reader) { r.Text() },
	} {
		r := new(octet.Reader)
		read(r)
		stands(t, name, r, 0, 0, true)
		tellsNothing(t, name, r)
	}
}

// R3, R4: Readers of the same bytes go on by themselves, and tell the same.
func TestReadersGoOnByThemselves(t *testing.T) {
	const s = "\x00\x02ab\x80\x01"
	a, b := octet.Read(s), octet.Read(s)
	if x := a.Text(); x != "ab" {
		t.Errorf("%q", x)
	}
	a.Take(9)
	stands(t, "the first one", a, 4, 2, true)
	stands(t, "the other one", b, 0, 6, false)
	if x, y, z := b.Text(), b.Int(1), b.Num(1); x != "ab" || y != -128 || z != 1 {
		t.Errorf("%q, %d, %d", x, y, z)
	}
	stands(t, "the first one", a, 4, 2, true)
}
