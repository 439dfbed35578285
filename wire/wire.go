// Package wire writes and reads numbers as bytes, the highest first.
package wire

// maxSize is how many bytes a number has at most.
const maxSize = 8

// Writer is bytes to which more are written; the zero one has none.
type Writer struct {
	written []byte
}

// Reader is bytes that are read from the front on.
type Reader struct {
	unread []byte
}

// Put: a number of so many bytes, one to eight; false: it doesn't fit.
func (w *Writer) Put(n uint64, size int) bool {
	// A shift by all 64 bits leaves nothing, so every number fits in eight bytes.
	if !sizeMayBe(size) || n>>(8*size) != 0 {
		return false
	}
	for i := range size {
		w.written = append(w.written, byte(n>>(8*(size-1-i))))
	}
	return true
}

// Append: bytes as they are.
func (w *Writer) Append(parts ...[]byte) {
	for _, part := range parts {
		w.written = append(w.written, part...)
	}
}

// Bytes: all that was written. Len: how many bytes.
func (w *Writer) Bytes() []byte { return fresh(w.written) }

func (w *Writer) Len() int { return len(w.written) }

// Read: of some bytes.
func Read(b []byte) *Reader {
	// What the caller does to b later must not be read.
	return &Reader{unread: fresh(b)}
}

// Take: a number of so many bytes; false: there aren't as many, and nothing is read.
func (r *Reader) Take(size int) (uint64, bool) {
	if !sizeMayBe(size) {
		return 0, false
	}
	next, ok := r.next(size)
	if !ok {
		return 0, false
	}
	var n uint64
	for _, b := range next {
		n = n<<8 | uint64(b)
	}
	return n, true
}

// Cut: so many bytes as they are; false: there aren't as many, and nothing is read.
func (r *Reader) Cut(n int) ([]byte, bool) {
	next, ok := r.next(n)
	if !ok {
		return nil, false
	}
	return fresh(next), true
}

// Left: how many bytes weren't read.
func (r *Reader) Left() int { return len(r.unread) }

// next: the next n bytes, which are read; they are the reader's own memory, not to be handed out.
func (r *Reader) next(n int) ([]byte, bool) {
	if n < 0 || n > len(r.unread) {
		return nil, false
	}
	taken := r.unread[:n]
	r.unread = r.unread[n:]
	return taken, true
}

// sizeMayBe: may a number have so many bytes?
func sizeMayBe(size int) bool { return size >= 1 && size <= maxSize }

// fresh: the same bytes as new memory. How much room append leaves behind them is the allocator's choice; it is cut off, lest an answer hang on it.
func fresh(b []byte) []byte {
	copied := append([]byte{}, b...)
	return copied[:len(copied):len(copied)]
}
