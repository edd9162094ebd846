package words_test

import (
	"math/rand"
	"reflect"
	"slices"
	"strconv"
	"strings"
	"testing"

	"fleuron/words"
)

// word is one, and where it stands.
func word(line, at int, text string) words.Word {
	return words.Word{Line: line, At: at, Text: text}
}

// row is words together.
func row(l ...words.Word) []words.Word { return l }

// same tells whether two rows of rows have the same words.
func same(a, b [][]words.Word) bool {
	return slices.EqualFunc(a, b, slices.Equal[[]words.Word])
}

// blank tells whether a byte stands between words.
func blank(b byte) bool { return b == 32 || b == 9 }

// wordsOf are a line's words by the promise's own words: all pieces that are words.
func wordsOf(line string, number int) []words.Word {
	if at := strings.IndexByte(line, '#'); at >= 0 {
		line = line[:at]
	}
	var all []words.Word
	for begin := range len(line) {
		for end := begin + 1; end <= len(line) && !blank(line[end-1]); end++ {
			if (begin == 0 || blank(line[begin-1])) && (end == len(line) || blank(line[end])) {
				all = append(all, word(number, begin, line[begin:end]))
			}
		}
	}
	return all
}

// wantLines is what P5.1 says, by its words.
func wantLines(s string) [][]words.Word {
	var all [][]words.Word
	for i, line := range strings.Split(s, "\n") {
		if l := wordsOf(line, i+1); len(l) > 0 {
			all = append(all, l)
		}
	}
	return all
}

// holdLines holds Lines against what is wanted.
func holdLines(t *testing.T, s string, want [][]words.Word) {
	t.Helper()
	if got := words.Lines(s); !same(got, want) {
		t.Fatalf("Lines of %q = %v, want %v", s, got, want)
	}
}

// P5.1: lines of one word and of several, with blanks and tabs, comments, and bytes of all kinds.
func TestLines(t *testing.T) {
	for s, want := range map[string][][]words.Word{
		"a [ b] # c\n d":  {row(word(1, 0, "a"), word(1, 2, "["), word(1, 4, "b]")), row(word(2, 1, "d"))},
		"":                nil,
		"\n":              nil,
		"\n\n\n":          nil,
		" \t \n\t\n ":     nil,
		"a":               {row(word(1, 0, "a"))},
		"a\n":             {row(word(1, 0, "a"))},
		"\na":             {row(word(2, 0, "a"))},
		"\na\n":           {row(word(2, 0, "a"))},
		"a\n\n\nb\n\n":    {row(word(1, 0, "a")), row(word(4, 0, "b"))},
		"a\n \t\n#\nb":    {row(word(1, 0, "a")), row(word(4, 0, "b"))},
		"unit 1000\n":     {row(word(1, 0, "unit"), word(1, 5, "1000"))},
		"\t a\t \tbc  \t": {row(word(1, 2, "a"), word(1, 6, "bc"))},
		"ab\tcd ef":       {row(word(1, 0, "ab"), word(1, 3, "cd"), word(1, 6, "ef"))},
		"#":               nil,
		"# a b":           nil,
		"#a\nb":           {row(word(2, 0, "b"))},
		"  #a\n##\nb":     {row(word(3, 0, "b"))},
		"a#":              {row(word(1, 0, "a"))},
		"a #":             {row(word(1, 0, "a"))},
		"a# b\nc":         {row(word(1, 0, "a")), row(word(2, 0, "c"))},
		"a#b c":           {row(word(1, 0, "a"))},
		"a b#c#d e":       {row(word(1, 0, "a"), word(1, 2, "b"))},
		"a # b # c\n# d":  {row(word(1, 0, "a"))},
		"[a]":             {row(word(1, 0, "[a]"))},
		"[ [] ]] ] [a":    {row(word(1, 0, "["), word(1, 2, "[]"), word(1, 5, "]]"), word(1, 8, "]"), word(1, 10, "[a"))},
		"0,0 10,5* push:5 / > @Z": {row(word(1, 0, "0,0"), word(1, 4, "10,5*"), word(1, 10, "push:5"),
			word(1, 17, "/"), word(1, 19, ">"), word(1, 21, "@Z"))},
		"a\r\nb\r":                      {row(word(1, 0, "a\r")), row(word(2, 0, "b\r"))},
		"\r":                            {row(word(1, 0, "\r"))},
		"a\rb":                          {row(word(1, 0, "a\rb"))},
		"\x00 \x00\x00":                 {row(word(1, 0, "\x00"), word(1, 2, "\x00\x00"))},
		"a\vb\fc":                       {row(word(1, 0, "a\vb\fc"))},
		"a\u00a0b \u2003 \u0085":        {row(word(1, 0, "a\u00a0b"), word(1, 5, "\u2003"), word(1, 9, "\u0085"))},
		"a\u2028b":                      {row(word(1, 0, "a\u2028b"))},
		"\u00e9\u00e9 b\n\u20ac":        {row(word(1, 0, "\u00e9\u00e9"), word(1, 5, "b")), row(word(2, 0, "\u20ac"))},
		"\xff\xfe \xe2\n\x82 \x80":      {row(word(1, 0, "\xff\xfe"), word(1, 3, "\xe2")), row(word(2, 0, "\x82"), word(2, 2, "\x80"))},
		"\xf0\x9f#\xf0\n\xf0\x9f\x98 a": {row(word(1, 0, "\xf0\x9f")), row(word(2, 0, "\xf0\x9f\x98"), word(2, 4, "a"))},
	} {
		holdLines(t, s, want)
	}
}

// P5.1: of all short sources of the bytes that matter, and some others, what the promise's words say.
func TestLinesOfAllShortSources(t *testing.T) {
	const bytes = "a \t#\n[\r\xe2"
	sources := []string{""}
	for range 6 {
		var longer []string
		for _, s := range sources {
			holdLines(t, s, wantLines(s))
			for i := range len(bytes) {
				longer = append(longer, s+bytes[i:i+1])
			}
		}
		sources = longer
	}
}

// P5.1: any byte stands in words, but for those that the promise names; also beside others that would be a rune together.
func TestLinesOfAllBytes(t *testing.T) {
	for i := range 1 << 16 {
		pair := string([]byte{byte(i >> 8), byte(i)})
		for _, s := range []string{pair, "a" + pair + "b", "\xe2" + pair, "\xf0\x9f" + pair + "\x80\n"} {
			holdLines(t, s, wantLines(s))
		}
	}
	for b := range 256 {
		s := "x" + string([]byte{byte(b)}) + "y"
		want := [][]words.Word{row(word(1, 0, s))}
		switch b {
		case 32, 9:
			want = [][]words.Word{row(word(1, 0, "x"), word(1, 2, "y"))}
		case 10:
			want = [][]words.Word{row(word(1, 0, "x")), row(word(2, 0, "y"))}
		case '#':
			want = [][]words.Word{row(word(1, 0, "x"))}
		}
		holdLines(t, s, want)
	}
}

// drawn is a source by chance: pieces of a few kinds, or any bytes.
func drawn(r *rand.Rand, any bool) string {
	pieces := []string{" ", " ", "\t", "\n", "\n", "#", "[", "]", "a", "word", "-12", "@Z", "\r", "\x00", "\u00e9", "\xe2\x82", "\xff"}
	var b strings.Builder
	for range r.Intn(60) {
		if any {
			b.WriteByte(byte(r.Intn(256)))
		} else {
			b.WriteString(pieces[r.Intn(len(pieces))])
		}
	}
	return b.String()
}

// P5.1: of many sources, what the promise's words say.
func TestLinesOfManySources(t *testing.T) {
	r := rand.New(rand.NewSource(5))
	for i := range 20000 {
		s := drawn(r, i%4 == 0)
		holdLines(t, s, wantLines(s))
	}
}

// P1, R5: sources of very many bytes, lines and words.
func TestLinesOfLongSources(t *testing.T) {
	const n = 1 << 20
	long := strings.Repeat("w", n)
	holdLines(t, long, [][]words.Word{row(word(1, 0, long))})
	holdLines(t, strings.Repeat("\n", n)+"a", [][]words.Word{row(word(n+1, 0, "a"))})
	holdLines(t, strings.Repeat(" ", n)+"a", [][]words.Word{row(word(1, n, "a"))})
	holdLines(t, "a#"+strings.Repeat(" # b", n)+"\nc", [][]words.Word{row(word(1, 0, "a")), row(word(2, 0, "c"))})
	rows := words.Lines(strings.Repeat("a b\n", n))
	if len(rows) != n || !slices.Equal(rows[n-1], row(word(n, 0, "a"), word(n, 2, "b"))) {
		t.Errorf("%d rows of many", len(rows))
	}
	rows = words.Lines(strings.Repeat("ab ", n))
	if len(rows) != 1 || len(rows[0]) != n || rows[0][n-1] != word(1, 3*n-3, "ab") {
		t.Errorf("%d rows, of many words in one line", len(rows))
	}
}

// texts are the texts of words, without their places.
func texts(rows [][]words.Word) [][]string {
	var all [][]string
	for _, l := range rows {
		var line []string
		for _, w := range l {
			line = append(line, w.Text)
		}
		all = append(all, line)
	}
	return all
}

// P5.4: how many blanks stand between words, and what comments say, plays no part but for places; nor do lines without words.
func TestBlanksAndCommentsPlayNoPart(t *testing.T) {
	r := rand.New(rand.NewSource(54))
	blanks := func(least int) string {
		var b strings.Builder
		for range least + r.Intn(4) {
			b.WriteByte(" \t"[r.Intn(2)])
		}
		return b.String()
	}
	for range 3000 {
		var plain, other strings.Builder
		for range r.Intn(6) {
			for i := range 1 + r.Intn(4) {
				w := []string{"a", "[", "]", "x]", "-7", "\r", "\xff"}[r.Intn(7)]
				plain.WriteString([]string{"", " "}[min(i, 1)] + w)
				other.WriteString(blanks(min(i, 1)) + w)
			}
			plain.WriteString("\n")
			other.WriteString(blanks(0) + []string{"", "#", "# a b", "#[\x00\xff #"}[r.Intn(4)] + "\n")
		}
		a, b := words.Lines(plain.String()), words.Lines(other.String())
		if !reflect.DeepEqual(texts(a), texts(b)) {
			t.Fatalf("of %q %v, of %q %v", plain.String(), texts(a), other.String(), texts(b))
		}
		for i := range a {
			if a[i][0].Line != i+1 || b[i][0].Line != i+1 {
				t.Fatalf("of %q and %q: row %d is of lines %d and %d", plain.String(), other.String(), i, a[i][0].Line, b[i][0].Line)
			}
		}
	}
}

// R3, R4: what is told is the caller's: nothing that is written to it, or behind it, turns other rows, or what is told later.
func TestLinesAreTheCallers(t *testing.T) {
	var b strings.Builder
	for i := range 50 {
		b.WriteString(strings.Repeat("w"+strconv.Itoa(i)+" ", i%7) + "\n")
	}
	s := b.String()
	kept, want := words.Lines(s), wantLines(s)
	written := words.Lines(s)
	for i := range written {
		for j := range written[i] {
			written[i][j] = word(-1, -1, "other")
		}
		full := written[i][:cap(written[i])]
		for j := range full {
			full[j] = word(-2, -2, "behind")
		}
		if rest := written[i+1:]; !same(rest, want[i+1:]) {
			t.Fatalf("row %d was written to, and %v stands behind it", i, rest)
		}
	}
	if !same(kept, want) || !same(words.Lines(s), want) {
		t.Errorf("what was told turned to %v", kept)
	}
}
