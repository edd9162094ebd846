package octet_test

import (
	"math"
	"strconv"
	"strings"
	"testing"

	"fleuron/octet"
)

// wrongSizes are sizes that no number has.
func wrongSizes() []int {
	return []int{-1, -8, math.MinInt, math.MinInt64 / 8, 9, 16, 64, 1 << 61, math.MaxInt}
}

// numbers are some at both ends, and about each power of 256.
func numbers() []int64 {
	all := []int64{0, 1, -1, 2, -2, 127, 128, -128, -129, 258, math.MaxInt64, math.MinInt64, 0x0123456789abcdef, -0x0123456789abcdef}
	for bits := 7; bits < 63; bits++ {
		power := int64(1) << bits
		all = append(all, power-1, power, power+1, -power-1, -power, -power+1)
	}
	return all
}

// P1.1: the lowest bytes of a number, the highest one first.
func TestPutHasTheLowestBytesHighestFirst(t *testing.T) {
	const n = 0x0123456789abcdef
	const below = -0x0123456789abcdef
	for _, x := range []struct {
		n    int64
		size int
		want string
	}{
		{n, 0, ""},
		{n, 1, "\xef"},
		{n, 2, "\xcd\xef"},
		{n, 3, "\xab\xcd\xef"},
		{n, 4, "\x89\xab\xcd\xef"},
		{n, 5, "\x67\x89\xab\xcd\xef"},
		{n, 6, "\x45\x67\x89\xab\xcd\xef"},
		{n, 7, "\x23\x45\x67\x89\xab\xcd\xef"},
		{n, 8, "\x01\x23\x45\x67\x89\xab\xcd\xef"},
		{below, 0, ""},
		{below, 1, "\x11"},
		{below, 2, "\x32\x11"},
		{below, 3, "\x54\x32\x11"},
		{below, 4, "\x76\x54\x32\x11"},
		{below, 5, "\x98\x76\x54\x32\x11"},
		{below, 6, "\xba\x98\x76\x54\x32\x11"},
		{below, 7, "\xdc\xba\x98\x76\x54\x32\x11"},
		{below, 8, "\xfe\xdc\xba\x98\x76\x54\x32\x11"},
		{258, 3, "\x00\x01\x02"},
		{256, 1, "\x00"},
		{0, 8, "\x00\x00\x00\x00\x00\x00\x00\x00"},
		{-1, 1, "\xff"},
		{-1, 8, "\xff\xff\xff\xff\xff\xff\xff\xff"},
		{-32768, 3, "\xff\x80\x00"},
		{math.MaxInt64, 8, "\x7f\xff\xff\xff\xff\xff\xff\xff"},
		{math.MinInt64, 8, "\x80\x00\x00\x00\x00\x00\x00\x00"},
		{math.MinInt64, 7, "\x00\x00\x00\x00\x00\x00\x00"},
	} {
		if got := octet.Put(x.n, x.size); got != x.want {
			t.Errorf("Put(%d, %d) = %x, want %x", x.n, x.size, got, x.want)
		}
	}
}

// P1.1: of sizes that are not 0 to 8 there is nothing.
func TestPutOfWrongSizesIsEmpty(t *testing.T) {
	for _, size := range wrongSizes() {
		for _, n := range []int64{0, 7, -1, math.MaxInt64, math.MinInt64} {
			if got := octet.Put(n, size); got != "" {
				t.Errorf("Put(%d, %d) = %x", n, size, got)
			}
		}
	}
}

// P1.1: a text has its length ahead.
func TestTextHasItsLengthAhead(t *testing.T) {
	for s, want := range map[string]string{
		"":                       "\x00\x00",
		"a":                      "\x00\x01a",
		"ab":                     "\x00\x02ab",
		"\x00":                   "\x00\x01\x00",
		"\xff\xfe":               "\x00\x02\xff\xfe",
		"\u00e9":                 "\x00\x02\xc3\xa9",
		strings.Repeat("b", 255): "\x00\xff" + strings.Repeat("b", 255),
		strings.Repeat("b", 256): "\x01\x00" + strings.Repeat("b", 256),
		strings.Repeat("b", 258): "\x01\x02" + strings.Repeat("b", 258),
	} {
		if got := octet.Text(s); got != want {
			t.Errorf("Text of %d bytes: %x, want %x", len(s), got, want)
		}
	}
}

// P1.1: the longest text has 65535 bytes.
func TestTextHasAtMost65535Bytes(t *testing.T) {
	longest := strings.Repeat("x", 65534) + "y"
	if got := octet.Text(longest); got != "\xff\xff"+longest {
		t.Errorf("Text of 65535 bytes: %d bytes", len(got))
	}
	for _, n := range []int{65536, 65537, 2 * 65536, 1 << 20} {
		if got := octet.Text(strings.Repeat("x", n)); got != "" {
			t.Errorf("Text of %d bytes: %d bytes", n, len(got))
		}
	}
}

// P1.3: numbers of four bytes, added up, with zeros behind.
func TestSumAddsNumbersOfFourBytes(t *testing.T) {
	for s, want := range map[string]uint32{
		"":                                    0,
		"\x00":                                0,
		"\x01":                                0x01000000,
		"\x01\x02":                            0x01020000,
		"\x01\x02\x03":                        0x01020300,
		"\x01\x02\x03\x04":                    0x01020304,
		"\x01\x02\x03\x04\x05":                0x06020304,
		"\x00\x00\x00\x01\xff":                4278190081,
		"\x01\x02\x03\x04\x05\x06":            0x06080304,
		"\x01\x02\x03\x04\x05\x06\x07":        0x06080a04,
		"\x01\x02\x03\x04\x05\x06\x07\x08":    0x06080a0c,
		"\x00\x00\x00\xff\x00\x00\x00\x01":    0x100,
		"\xff\xff\xff\xff\x00\x00\x00\x02":    1,
		"\xff\xff\xff\xff\xff\xff\xff\xff":    0xfffffffe,
		strings.Repeat("\x80\x00\x00\x01", 3): 0x80000003,
		strings.Repeat("\xff", 1<<20):         0xfffc0000,
	} {
		if got := octet.Sum(s); got != want {
			t.Errorf("Sum of %d bytes = %#x, want %#x", len(s), got, want)
		}
	}
}

// P1.3: zeros that are laid behind up to a multiple of four, and beyond it, count nothing.
func TestSumOfZerosBehind(t *testing.T) {
	s := "\x12\x34\x56\x78\x9a\xbc\xde\xf0\x11"
	for n := range len(s) + 1 {
		for zeros := range 9 {
			if a, b := octet.Sum(s[:n]), octet.Sum(s[:n]+strings.Repeat("\x00", zeros)); a != b {
				t.Errorf("%d bytes and %d zeros: %#x, without them %#x", n, zeros, b, a)
			}
		}
	}
}

// P1.4: numbers of all sizes and texts that were put one behind the other are read so.
func TestWhatWasPutIsRead(t *testing.T) {
	text := func(i int) string { return strings.Repeat("t", i%5) + strconv.Itoa(i) }
	var b strings.Builder
	for i, n := range numbers() {
		for size := range 9 {
			b.WriteString(octet.Put(n, size))
			b.WriteString(octet.Put(n, size))
		}
		b.WriteString(octet.Text(text(i)))
	}
	r := octet.Read(b.String())
	for i, n := range numbers() {
		for size := range 9 {
			if got, want := r.Num(size), lowBits(n, size); got != want {
				t.Fatalf("Num(%d) of %d = %d, want %d", size, n, got, want)
			}
			if got, want := r.Int(size), signedBits(n, size); got != want {
				t.Fatalf("Int(%d) of %d = %d, want %d", size, n, got, want)
			}
		}
		if got := r.Text(); got != text(i) {
			t.Fatalf("Text() = %q, want %q", got, text(i))
		}
	}
	if r.Failed() || r.Left() != 0 || r.At() != b.Len() {
		t.Errorf("failed %t, left %d, at %d of %d", r.Failed(), r.Left(), r.At(), b.Len())
	}
}

// P1.4: the longest text that can be put is read, too.
func TestTheLongestTextIsRead(t *testing.T) {
	longest := strings.Repeat("0123456789abcde", 4369)
	r := octet.Read(octet.Text(longest) + octet.Text("") + "z")
	if got := r.Text(); got != longest {
		t.Errorf("%d bytes", len(got))
	}
	if got := r.Text(); got != "" || r.At() != 65539 || r.Left() != 1 || r.Failed() {
		t.Errorf("%q, at %d, left %d", got, r.At(), r.Left())
	}
}

// P1.4: a byte that is another one turns the sum.
func TestAnotherByteTurnsTheSum(t *testing.T) {
	s := "\x00\xff\x80\x7f\x01\xfe"
	for n := 1; n <= len(s); n++ {
		sum := octet.Sum(s[:n])
		for i := range n {
			for other := range 256 {
				turned := []byte(s[:n])
				turned[i] = byte(other)
				if same := turned[i] == s[i]; same != (octet.Sum(string(turned)) == sum) {
					t.Errorf("%d bytes, byte %d to %d: the sum's sameness is not %t", n, i, other, same)
				}
			}
		}
	}
}

// lowBits is what a number's lowest bytes are without a sign, by the power of two that they go round at.
func lowBits(n int64, size int) int64 {
	if size == 8 {
		return n
	}
	round := int64(1) << (8 * size)
	return (n%round + round) % round
}

// signedBits is the same with a sign.
func signedBits(n int64, size int) int64 {
	low := lowBits(n, size)
	if size > 0 && size < 8 && low >= int64(1)<<(8*size-1) {
		return low - int64(1)<<(8*size)
	}
	return low
}
