package words

// none is where a word begins that has not begun yet.
const none = -1

// Lines are the words of each of a source's lines that has some.
//
// All runes that are looked for have one byte, and a byte that is part of no rune is told as one by itself: so none of them is overlooked, whatever bytes stand about it.
func Lines(s string) [][]Word {
	var lines [][]Word
	number, begin := 1, 0
	end := func(at int) {
		if line := split(s[begin:at], number); len(line) > 0 {
			lines = append(lines, line)
		}
		number, begin = number+1, at+1
	}
	for at, char := range s {
		if char == '\n' {
			end(at)
		}
	}
	end(len(s))
	return lines
}

// split is the words of one line, up to its comment.
func split(line string, number int) []Word {
	var words []Word
	begin := none
	end := func(at int) {
		if begin != none {
			words = append(words, Word{Line: number, At: begin, Text: line[begin:at]})
			begin = none
		}
	}
look:
	for at, char := range line {
		switch char {
		case '#':
			line = line[:at]
			break look
		case ' ', '\t':
			end(at)
		default:
			if begin == none {
				begin = at
			}
		}
	}
	end(len(line))
	return words
}
