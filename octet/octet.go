// Package octet is layer 1: whole numbers and texts as bytes, and back (see shared/doc/01-octet.md).
package octet

const (
	byteBits  = 8
	maxSize   = 8 // bytes of the widest number
	textSize  = 2 // bytes of the length that stands ahead of a text
	maxText   = 1<<(byteBits*textSize) - 1
	wordBytes = 4 // bytes of each number that Sum adds up
)

// Put is a number as so many bytes (0 to 8), the highest one first.
func Put(n int64, size int) string {
	if !rightSize(size) {
		return ""
	}
	bytes := make([]byte, size)
	for i := range bytes {
		bytes[size-1-i] = byte(n >> (byteBits * i))
	}
	return string(bytes)
}

// Text is a text with its length (2 bytes) ahead; empty, if those can't tell the length.
func Text(s string) string {
	if len(s) > maxText {
		return ""
	}
	return Put(int64(len(s)), textSize) + s
}

// Sum is a check of bytes: their four byte numbers, added up.
func Sum(s string) uint32 {
	var sum uint32
	for i := range len(s) {
		// Byte by byte at its own weight, the zeros that fill up the last number need not be laid behind.
		sum += uint32(s[i]) << (byteBits * (wordBytes - 1 - i%wordBytes))
	}
	return sum
}

func rightSize(size int) bool {
	return 0 <= size && size <= maxSize
}
