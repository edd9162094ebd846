package words_test

import (
	"math/rand"
	"regexp"
	"strconv"
	"strings"
	"testing"

	"fleuron/words"
)

// What P5.2 says of names, and of numbers.
var (
	names   = regexp.MustCompile(`\A[A-Za-z_.][A-Za-z_.0-9-]{0,15}\z`)
	numbers = regexp.MustCompile(`\A-?[0-9]{1,9}\z`)
)

// wantNumber is what P5.2 says that a text's number is.
func wantNumber(s string) (int, bool) {
	if !numbers.MatchString(s) {
		return 0, false
	}
	n, err := strconv.Atoi(s)
	return n, err == nil
}

// holdName holds Name against what is wanted.
func holdName(t *testing.T, s string, want bool) {
	t.Helper()
	if got := words.Name(s); got != want {
		t.Errorf("Name(%q) = %t", s, got)
	}
}

// holdNumber holds Number against what is wanted.
func holdNumber(t *testing.T, s string, want int, ok bool) {
	t.Helper()
	if got, told := words.Number(s); got != want || told != ok {
		t.Errorf("Number(%q) = %d, %t, want %d, %t", s, got, told, want, ok)
	}
}

// P5.2: names.
func TestNames(t *testing.T) {
	for _, s := range []string{"a", "A", "z", "Z", "_", ".", "a0", "a9", "a-", "a.", "a_", "_-", ".-", "..", "__", ".notdef", "f_i", "a-b.c_D9", "_----", strings.Repeat("n", 15), strings.Repeat("n", 16), "." + strings.Repeat("9", 15), "_" + strings.Repeat("-", 15)} {
		holdName(t, s, true)
	}
	for _, s := range []string{"", "-", "-a", "0", "9a", "1.", " ", " a", "a ", "a b", "a\t", "a\n", "\na", "a\r", "\x00", "a\x00", "@a", "a@", "[", "a]", "a/", "a:", "`", "a`", "{", "[a", "/", "a#", "a,", "a+", "a*", "\u00e9", "a\u00e9", "\uff41", "a\u0661", "\xff", "a\xff", "a\xc3", "\ufffd", "a\ufffd", strings.Repeat("n", 17), strings.Repeat("n", 32), strings.Repeat("n", 1<<20), strings.Repeat("\u00e9", 8), strings.Repeat("n", 16) + "\xff"} {
		holdName(t, s, false)
	}
}

// P5.2: numbers.
func TestNumbers(t *testing.T) {
	for s, want := range map[string]int{
		"0": 0, "7": 7, "9": 9, "10": 10, "-1": -1, "-0": 0, "00": 0, "-000000000": 0, "007": 7, "-007": -7, "-10": -10,
		"1234567": 1234567, "123456789": 123456789, "-123456789": -123456789, "999999999": 999999999, "-999999999": -999999999,
		"000000000": 0, "000000001": 1, "-000000012": -12, "100000000": 100000000,
	} {
		holdNumber(t, s, want, true)
	}
	for _, s := range []string{"", "-", "--", "--1", "-1-", "1-", "1-2", "+1", "-+1", "+", " 1", "1 ", "- 1", "1\n", "1\r", "\x001", "1\x00", "1.0", "1e3", "0x1", "1_0", "a", "1a", "a1", "/", ":", "1/", "1:", "1,2", "1*",
		"0000000000", "0000000001", "1234567890", "-1234567890", "-0000000001", "9223372036854775808", strings.Repeat("0", 1<<20), strings.Repeat("9", 1<<20), "-" + strings.Repeat("9", 20), "\u0661", "\uff11", "\u00b2", "\u22121", "1\xff", "\xff", "-\xff", "\xb1"} {
		holdNumber(t, s, 0, false)
	}
}

// short are all texts of up to so many of the bytes.
func short(bytes string, most int) []string {
	all := []string{""}
	for from := 0; most > 0; most-- {
		to := len(all)
		for _, s := range all[from:to] {
			for i := range len(bytes) {
				all = append(all, s+bytes[i:i+1])
			}
		}
		from = to
	}
	return all
}

// anyBytes are all bytes.
func anyBytes() string {
	var b strings.Builder
	for i := range 256 {
		b.WriteByte(byte(i))
	}
	return b.String()
}

// P5.2: of all texts of no, one and two bytes, and of longer ones of bytes that matter, what the promise's words say.
func TestNamesAndNumbersOfShortTexts(t *testing.T) {
	for _, s := range append(short(anyBytes(), 2), short("aZ_.-09 /:@[`{\xc3\xa9", 4)...) {
		holdName(t, s, names.MatchString(s))
		n, ok := wantNumber(s)
		holdNumber(t, s, n, ok)
		if t.Failed() {
			return
		}
	}
}

// P5.2: longer texts, about as long as names and numbers may be, with all bytes of theirs and with one that is not.
func TestNamesAndNumbersOfLongerTexts(t *testing.T) {
	r := rand.New(rand.NewSource(52))
	const name, number = "abyzABYZ_.-0189", "0123456789"
	named, numbered := 0, 0
	for i := range 40000 {
		bytes := []string{name, number}[i%2]
		text := make([]byte, r.Intn(20))
		for j := range text {
			text[j] = bytes[r.Intn(len(bytes))]
		}
		if len(text) > 0 && i%3 == 0 {
			text[0] = '-'
		}
		if len(text) > 0 && i%5 == 0 {
			text[r.Intn(len(text))] = byte(r.Intn(256))
		}
		s := string(text)
		holdName(t, s, names.MatchString(s))
		n, ok := wantNumber(s)
		holdNumber(t, s, n, ok)
		if ok {
			numbered++
		}
		if names.MatchString(s) {
			named++
		}
	}
	if named < 1000 || numbered < 1000 {
		t.Errorf("%d names and %d numbers only", named, numbered)
	}
}

// P5.2: each number from -999999999 to 999999999, as strconv writes it, is told; those beyond are not.
func TestNumbersAsTheyAreWritten(t *testing.T) {
	for n := -999999999; n <= 999999999; n += 12345 {
		holdNumber(t, strconv.Itoa(n), n, true)
	}
	for _, n := range []int{-1000000000, 1000000000, 1 << 31, -1 << 31, 1<<63 - 1, -1 << 63} {
		holdNumber(t, strconv.Itoa(n), 0, false)
	}
}
