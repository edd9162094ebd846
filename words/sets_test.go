package words_test

import (
	"slices"
	"strings"
	"testing"

	"fleuron/words"
)

// laid are words of these texts, one behind the other in one line.
func laid(s string) []words.Word {
	if rows := words.Lines(s); len(rows) > 0 {
		return rows[0]
	}
	return nil
}

// bracket tells whether a word is one.
func bracket(w words.Word) bool { return w.Text == "[" || w.Text == "]" }

// wantSets is what P5.3 says, by its words: each bracket is held against the one that follows it.
func wantSets(l []words.Word) ([][]words.Word, bool) {
	var brackets []int
	for i, w := range l {
		if bracket(w) {
			brackets = append(brackets, i)
		}
	}
	if len(brackets)%2 == 1 {
		return nil, false
	}
	for i, at := range brackets {
		if l[at].Text != []string{"[", "]"}[i%2] {
			return nil, false
		}
	}
	var sets [][]words.Word
	at := 0
	alone := func(end int) {
		for ; at < end; at++ {
			sets = append(sets, row(l[at]))
		}
	}
	for pair := range slices.Chunk(brackets, 2) {
		alone(pair[0])
		sets = append(sets, l[pair[0]+1:pair[1]])
		at = pair[1] + 1
	}
	alone(len(l))
	return sets, true
}

// holdSets holds Sets against what is wanted.
func holdSets(t *testing.T, l []words.Word, want [][]words.Word, ok bool) {
	t.Helper()
	if got, told := words.Sets(l); !same(got, want) || told != ok || !ok && got != nil {
		t.Errorf("Sets of %v = %v, %t, want %v, %t", l, got, told, want, ok)
	}
}

// P5.3: words alone, sets of none, of one and of several, between brackets.
func TestSets(t *testing.T) {
	x, y, z := word(1, 0, "x"), word(9, 4, "y"), word(-3, 7, "@Z")
	open, shut := word(2, 2, "["), word(2, 5, "]")
	for _, c := range []struct{ l, a, b, c []words.Word }{
		{l: row(x), a: row(x)},
		{l: row(x, y, z), a: row(x), b: row(y), c: row(z)},
		{l: row(x, open, y, z, shut), a: row(x), b: row(y, z)},
		{l: row(open, x, shut), a: row(x)},
		{l: row(open, x, y, x, shut, z, x), a: row(x, y, x), b: row(z), c: row(x)},
		{l: row(open, x, shut, open, y, z, shut, x), a: row(x), b: row(y, z), c: row(x)},
		{l: row(x, x, open, x, x, shut), a: row(x), b: row(x), c: row(x, x)},
	} {
		var want [][]words.Word
		for _, set := range [][]words.Word{c.a, c.b, c.c} {
			if set != nil {
				want = append(want, set)
			}
		}
		holdSets(t, c.l, want, true)
	}
}

// P5.3: sets of no words are rows, too; of no words at all there are none, and that is right.
func TestEmptySets(t *testing.T) {
	holdSets(t, nil, nil, true)
	holdSets(t, row(), nil, true)
	for s, want := range map[string][]int{"[ ]": {0}, "[ ] [ ]": {0, 0}, "a [ ] b": {1, 0, 1}, "[ ] a": {0, 1}, "[ a b ] [ ]": {2, 0}} {
		got, ok := words.Sets(laid(s))
		var sizes []int
		for _, set := range got {
			sizes = append(sizes, len(set))
		}
		if !ok || !slices.Equal(sizes, want) {
			t.Errorf("Sets of %q: %v, %t, want rows of %v", s, got, ok, want)
		}
	}
}

// P5.3: sets that are nested, left open, or closed without being open: nothing, false.
func TestWrongBrackets(t *testing.T) {
	for _, s := range []string{"[", "]", "[ [", "] ]", "] [", "[ [ ]", "[ ] ]", "[ [ ] ]", "[ a [ b ] ]", "a [", "a ]", "[ a", "] a", "a b [ c", "a ] b", "[ a ] ]", "[ a ] b ]", "[ a ] [", "[ a ] [ b", "[ a [", "a [ b [ c ] d", "] a [", "[ a ] [ [ b ]"} {
		holdSets(t, laid(s), nil, false)
	}
}

// P5.3: brackets are whole words: those that are part of a longer one, or of none, are words as others are.
func TestBracketsThatAreNoWords(t *testing.T) {
	for _, s := range []string{"[a", "a]", "[]", "[[", "]]", "[a]", "a[b", "][", "[\r", "\x00]"} {
		w := word(1, 0, s)
		holdSets(t, row(w), [][]words.Word{row(w)}, true)
		holdSets(t, row(word(0, 0, "["), w, w, word(0, 0, "]"), w), [][]words.Word{row(w, w), row(w)}, true)
		holdSets(t, row(word(0, 0, "["), w), nil, false)
		holdSets(t, row(w, word(0, 0, "]")), nil, false)
	}
	// Words that no line has.
	for _, s := range []string{"", " ", "[ ", " ]", "[ ]", "\n", "#"} {
		w := word(-1, -1, s)
		holdSets(t, row(w, word(0, 0, "["), w, word(0, 0, "]")), [][]words.Word{row(w), row(w)}, true)
	}
}

// P5.3: of all short rows of words, what the promise's words say.
func TestSetsOfAllShortRows(t *testing.T) {
	for _, s := range short("[]ab", 7) {
		l := laid(strings.Join(strings.Split(s, ""), " "))
		want, ok := wantSets(l)
		holdSets(t, l, want, ok)
		if t.Failed() {
			return
		}
	}
}

// P1, R5: rows of very many words.
func TestSetsOfManyWords(t *testing.T) {
	const n = 1 << 19
	for _, s := range []string{strings.Repeat("a ", n), "[ " + strings.Repeat("a ", n) + "]", strings.Repeat("[ a ] ", n), strings.Repeat("[ ] ", n)} {
		l := laid(s)
		want, ok := wantSets(l)
		if got, told := words.Sets(l); !told || !ok || !same(got, want) {
			t.Errorf("%d rows of %d words, %t", len(got), len(l), told)
		}
	}
	for _, s := range []string{strings.Repeat("[ ", n), strings.Repeat("] ", n), strings.Repeat("a ", n) + "[", "[ " + strings.Repeat("a ", n)} {
		if got, told := words.Sets(laid(s)); told || got != nil {
			t.Errorf("%d rows of wrong brackets", len(got))
		}
	}
}

// R3, R4: what is handed in stays as it is, and shares nothing with what is told.
func TestSetsAreTheCallers(t *testing.T) {
	const s = "a [ b c ] d [ e f g ] [ ] h [ i ] j k"
	whole := append(laid(s), laid("behind it")...)
	l := whole[:len(whole)-2]
	want, _ := wantSets(laid(s))
	kept, _ := words.Sets(l)
	written, _ := words.Sets(l)
	for i := range written {
		full := written[i][:cap(written[i])]
		for j := range full {
			full[j] = word(-1, -1, "other")
		}
		if rest := written[i+1:]; !same(rest, want[i+1:]) {
			t.Fatalf("row %d was written to, and %v stands behind it", i, rest)
		}
	}
	if !same(kept, want) || !slices.Equal(l, laid(s)) || whole[len(whole)-1].Text != "it" {
		t.Errorf("what was written to turned %v and %v", kept, whole)
	}
	clear(whole)
	if !same(kept, want) {
		t.Errorf("what was handed in turned %v", kept)
	}
}
