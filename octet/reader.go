package octet

// Reader reads bytes, one thing behind the other. Without Read it has none.
type Reader struct {
	bytes  string
	at     int
	failed bool
}

// Read is a Reader of a text's bytes.
func Read(s string) *Reader {
	return &Reader{bytes: s}
}

// Num is the next number of so many bytes, without a sign.
func (r *Reader) Num(size int) int64 {
	return whole(r, func() (int64, bool) {
		return r.number(size)
	})
}

// Int is the next number of so many bytes, with a sign.
func (r *Reader) Int(size int) int64 {
	return whole(r, func() (int64, bool) {
		n, ok := r.number(size)
		if !ok {
			return 0, false
		}
		// Shifted up to the top and down again, the number's highest bit becomes the sign.
		unused := byteBits * (maxSize - size)
		return n << unused >> unused, true
	})
}

// Text is the next text that has its length ahead.
func (r *Reader) Text() string {
	return whole(r, r.text)
}

// Take is so many bytes.
func (r *Reader) Take(n int) string {
	return whole(r, func() (string, bool) {
		return r.next(n)
	})
}

// At is where it stands.
func (r *Reader) At() int {
	if r == nil {
		return 0
	}
	return r.at
}

// Left is how many bytes stand from its place on.
func (r *Reader) Left() int {
	if r == nil {
		return 0
	}
	return len(r.bytes) - r.at
}

// Failed tells whether a call could not be done; of nil none can.
func (r *Reader) Failed() bool {
	return r == nil || r.failed
}

// whole does a call wholly or not at all: a text may lack its bytes when its length is read already.
func whole[T any](r *Reader, read func() (T, bool)) T {
	var nothing T
	if r.Failed() {
		return nothing
	}
	start := r.at
	got, ok := read()
	if !ok {
		r.at, r.failed = start, true
		return nothing
	}
	return got
}

func (r *Reader) text() (string, bool) {
	n, ok := r.number(textSize)
	if !ok {
		return "", false
	}
	return r.next(int(n))
}

func (r *Reader) number(size int) (int64, bool) {
	if !rightSize(size) {
		return 0, false
	}
	bytes, ok := r.next(size)
	var n int64
	for i := range len(bytes) {
		n = n<<byteBits | int64(bytes[i])
	}
	return n, ok
}

func (r *Reader) next(n int) (string, bool) {
	if n < 0 || n > r.Left() {
		return "", false
	}
	start := r.at
	r.at += n
	return r.bytes[start:r.at], true
}
