package sets

// most is of how many numbers classes are told.
const most = 1 << 16

// Partition are, for the numbers below n, classes, from 0 on as they first come: two numbers are of the same one just if they are of the same sets.
func Partition(n int, sets ...[]int) []int {
	if n < 1 || n > most {
		return nil
	}
	classes := make([]int, n)
	// By which set, counted from 1 on, a number went to another class last: in a row that is no set it may stand again.
	moved := make([]int, n)
	count := 1
	for i, set := range sets {
		// What is of a class and of this set makes a class of its own.
		cut := map[int]int{}
		for _, number := range set {
			if number < 0 || number >= n || moved[number] == i+1 {
				continue
			}
			moved[number] = i + 1
			to, known := cut[classes[number]]
			if !known {
				to, count = count, count+1
				cut[classes[number]] = to
			}
			classes[number] = to
		}
	}
	return numbered(classes)
}

// numbered are the same classes, with numbers as they first come.
func numbered(classes []int) []int {
	numbers := map[int]int{}
	l := make([]int, len(classes))
	for i, class := range classes {
		number, known := numbers[class]
		if !known {
			number = len(numbers)
			numbers[class] = number
		}
		l[i] = number
	}
	return l
}
