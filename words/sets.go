package words

// Sets are rows of words: those between brackets together, each other one alone; false: brackets are wrong.
func Sets(l []Word) ([][]Word, bool) {
	var sets [][]Word
	open := false
	for _, word := range l {
		switch word.Text {
		case "[":
			if open {
				return nil, false
			}
			open = true
			sets = append(sets, nil)
		case "]":
			if !open {
				return nil, false
			}
			open = false
		default:
			if !open {
				sets = append(sets, nil)
			}
			last := len(sets) - 1
			sets[last] = append(sets[last], word)
		}
	}
	if open {
		return nil, false
	}
	return sets, true
}
