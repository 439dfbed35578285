package wire

import (
	"bytes"
	"math"
	"testing"
)

// sizes: those that no number has.
var sizes = []int{0, -1, 9, 10, 16, 64, 256, 257, -8, math.MaxInt, math.MinInt}

// P2.1
func TestTheZeroWriterHasNoBytes(t *testing.T) {
	var w Writer
	if w.Len() != 0 || len(w.Bytes()) != 0 {
		t.Errorf("it has %d bytes: %x", w.Len(), w.Bytes())
	}
}

// P2.1
func TestPutWritesTheHighestByteFirst(t *testing.T) {
	cases := []struct {
		n    uint64
		size int
		want string
	}{
		{258, 2, "\x01\x02"},
		{0, 1, "\x00"},
		{255, 1, "\xFF"},
		{1, 3, "\x00\x00\x01"},
		{0x010203, 3, "\x01\x02\x03"},
		{0x01020304, 4, "\x01\x02\x03\x04"},
		{0x0102030405, 5, "\x01\x02\x03\x04\x05"},
		{0x010203040506, 6, "\x01\x02\x03\x04\x05\x06"},
		{0x01020304050607, 7, "\x01\x02\x03\x04\x05\x06\x07"},
		{0x0102030405060708, 8, "\x01\x02\x03\x04\x05\x06\x07\x08"},
		{0, 8, "\x00\x00\x00\x00\x00\x00\x00\x00"},
		{math.MaxUint64, 8, "\xFF\xFF\xFF\xFF\xFF\xFF\xFF\xFF"},
	}
	var all Writer
	var want string
	for _, c := range cases {
		var w Writer
		if !w.Put(c.n, c.size) || string(w.Bytes()) != c.want || w.Len() != c.size {
			t.Errorf("Put(%d, %d): %x, want %x", c.n, c.size, w.Bytes(), c.want)
		}
		want += c.want
		if !all.Put(c.n, c.size) || string(all.Bytes()) != want || all.Len() != len(want) {
			t.Errorf("Put(%d, %d) behind others: %x, want %x", c.n, c.size, all.Bytes(), want)
		}
	}
}

// P2.1, and P2: a refused Put leaves nothing behind.
func TestPutRefuses(t *testing.T) {
	var w Writer
	w.Put(7, 1)
	stays := func(n uint64, size int) {
		if w.Put(n, size) || w.Len() != 1 || string(w.Bytes()) != "\x07" {
			t.Errorf("Put(%d, %d) isn't refused, or leaves %x", n, size, w.Bytes())
		}
	}
	for _, size := range sizes {
		for _, n := range []uint64{0, 1, 255, math.MaxUint64} {
			stays(n, size)
		}
	}
	for size := 1; size < 8; size++ {
		first := uint64(1) << (8 * size)
		stays(first, size)
		stays(first+1, size)
		stays(math.MaxUint64, size)
		var fits Writer
		if !fits.Put(first-1, size) || fits.Len() != size {
			t.Errorf("Put(%d, %d) is refused", first-1, size)
		}
	}
}

// P2.1
func TestAppendWritesAllParts(t *testing.T) {
	var w Writer
	w.Append()
	w.Append(nil)
	w.Append([]byte{}, nil)
	if w.Len() != 0 {
		t.Errorf("no bytes were written, and there are %d", w.Len())
	}
	w.Append([]byte{1, 2})
	w.Put(3, 2)
	w.Append([]byte{4}, nil, []byte{5, 6}, []byte{}, []byte{7})
	w.Append()
	if string(w.Bytes()) != "\x01\x02\x00\x03\x04\x05\x06\x07" || w.Len() != 8 {
		t.Errorf("Bytes: %x, Len: %d", w.Bytes(), w.Len())
	}
}

// P2
func TestAWriterSharesNoMemory(t *testing.T) {
	room := []byte{1, 2, 3, 9, 9}
	var w Writer
	w.Append(room[:3])
	w.Put(4, 1)
	w.Append(room[:3])
	if string(room) != "\x01\x02\x03\x09\x09" {
		t.Errorf("what was handed in, or its spare room, is changed: %x", room)
	}
	clear(room)
	first, second := w.Bytes(), w.Bytes()
	const want = "\x01\x02\x03\x04\x01\x02\x03"
	if string(first) != want {
		t.Errorf("Append keeps what was handed in: %x", first)
	}
	clear(first[:cap(first)])
	if string(second) != want || string(w.Bytes()) != want {
		t.Error("Bytes' answers share memory")
	}
	_ = append(second, 0xFF)
	w.Put(8, 1)
	if string(second) != want || string(w.Bytes()) != want+"\x08" {
		t.Errorf("an answer shares memory with what is kept: %x, %x", second, w.Bytes())
	}
}

// P2.1
func TestWritersAreApart(t *testing.T) {
	var a, b Writer
	a.Put(1, 1)
	b.Append([]byte{2, 3})
	if string(a.Bytes()) != "\x01" || string(b.Bytes()) != "\x02\x03" {
		t.Errorf("%x, %x", a.Bytes(), b.Bytes())
	}
}

// P2.2
func TestTakeReadsTheHighestByteFirst(t *testing.T) {
	b := []byte{1, 2, 3, 4, 5, 6, 7, 8, 9}
	want := []uint64{0x01, 0x0102, 0x010203, 0x01020304, 0x0102030405, 0x010203040506, 0x01020304050607, 0x0102030405060708}
	for i, n := range want {
		r := Read(b)
		if got, ok := r.Take(i + 1); got != n || !ok || r.Left() != 8-i {
			t.Errorf("Take(%d): %#x, %t, and %d are left", i+1, got, ok, r.Left())
		}
		if got, ok := r.Take(1); got != uint64(b[i+1]) || !ok {
			t.Errorf("Take of the next one: %d, %t", got, ok)
		}
	}
	r := Read(bytes.Repeat([]byte{0xFF}, 8))
	if n, ok := r.Take(8); n != math.MaxUint64 || !ok || r.Left() != 0 {
		t.Errorf("Take of the greatest number: %#x, %t", n, ok)
	}
}

// P2.2, and P2: a refused Take leaves nothing behind.
func TestTakeRefuses(t *testing.T) {
	full := []byte{1, 2, 3, 4, 5, 6, 7, 8, 9, 10, 11, 12}
	r := Read(full)
	for _, size := range sizes {
		if n, ok := r.Take(size); n != 0 || ok || r.Left() != len(full) {
			t.Errorf("Take(%d): %d, %t, and %d are left", size, n, ok, r.Left())
		}
	}
	for have := range 8 {
		r := Read(full[:have])
		for size := have + 1; size <= 8; size++ {
			if n, ok := r.Take(size); n != 0 || ok || r.Left() != have {
				t.Errorf("Take(%d) of %d bytes: %d, %t, and %d are left", size, have, n, ok, r.Left())
			}
		}
		if b, ok := r.Cut(have); !bytes.Equal(b, full[:have]) || !ok {
			t.Errorf("after refused calls: %x, %t", b, ok)
		}
	}
}

// P2.2
func TestCut(t *testing.T) {
	b := []byte{1, 2, 3, 4, 5, 6, 7, 8, 9, 10, 11, 12}
	for n := range len(b) + 1 {
		r := Read(b)
		if got, ok := r.Cut(n); !bytes.Equal(got, b[:n]) || !ok || r.Left() != len(b)-n {
			t.Errorf("Cut(%d): %x, %t, and %d are left", n, got, ok, r.Left())
		}
		if got, ok := r.Cut(len(b) - n); !bytes.Equal(got, b[n:]) || !ok || r.Left() != 0 {
			t.Errorf("Cut of all behind %d: %x, %t, and %d are left", n, got, ok, r.Left())
		}
		if got, ok := r.Cut(0); len(got) != 0 || !ok {
			t.Errorf("Cut of none at the end: %x, %t", got, ok)
		}
	}
}

// P2.2, and P2: a refused Cut leaves nothing behind.
func TestCutRefuses(t *testing.T) {
	r := Read([]byte{1, 2, 3})
	for _, n := range []int{4, 5, 100, -1, -3, math.MaxInt, math.MinInt} {
		if b, ok := r.Cut(n); len(b) != 0 || ok || r.Left() != 3 {
			t.Errorf("Cut(%d): %x, %t, and %d are left", n, b, ok, r.Left())
		}
	}
	if n, ok := r.Take(3); n != 0x010203 || !ok {
		t.Errorf("after refused calls: %#x, %t", n, ok)
	}
	if b, ok := r.Cut(1); len(b) != 0 || ok || r.Left() != 0 {
		t.Errorf("Cut at the end: %x, %t", b, ok)
	}
}

// P2.2
func TestReadOfNothing(t *testing.T) {
	for _, b := range [][]byte{nil, {}, []byte{1, 2}[:0]} {
		r := Read(b)
		if r.Left() != 0 {
			t.Errorf("%d are left of nothing", r.Left())
		}
		if n, ok := r.Take(1); n != 0 || ok {
			t.Errorf("Take of nothing: %d, %t", n, ok)
		}
		if _, ok := r.Cut(1); ok {
			t.Error("Cut of one of nothing isn't refused")
		}
		if got, ok := r.Cut(0); len(got) != 0 || !ok {
			t.Errorf("Cut of none of nothing: %x, %t", got, ok)
		}
	}
}

// P2
func TestAReaderSharesNoMemory(t *testing.T) {
	room := []byte{1, 2, 3, 4, 5, 6, 9, 9}
	r, other := Read(room[:6]), Read(room[:6])
	first, _ := r.Cut(2)
	if string(room) != "\x01\x02\x03\x04\x05\x06\x09\x09" {
		t.Errorf("what was handed in, or its spare room, is changed: %x", room)
	}
	clear(room)
	if string(first) != "\x01\x02" {
		t.Errorf("Cut's answer shares memory with what was handed in: %x", first)
	}
	_ = append(first, 0xFF, 0xFF)
	second, _ := r.Cut(2)
	if string(second) != "\x03\x04" {
		t.Errorf("Cut's answer has what is unread behind it: %x", second)
	}
	clear(first[:cap(first)])
	clear(second[:cap(second)])
	if n, ok := r.Take(2); n != 0x0506 || !ok {
		t.Errorf("what is unread is changed: %#x, %t", n, ok)
	}
	if b, ok := other.Cut(6); string(b) != "\x01\x02\x03\x04\x05\x06" || !ok {
		t.Errorf("two readers of the same bytes aren't apart: %x, %t", b, ok)
	}
}

// The document's 'Ways': bytes are cut off without room behind them.
func TestNoRoomBehindAnswers(t *testing.T) {
	var w Writer
	for n := range 70 {
		cut, ok := Read(make([]byte, 70)).Cut(n)
		if !ok || cap(cut) != n {
			t.Errorf("Cut(%d) has room for %d", n, cap(cut))
		}
		if all := w.Bytes(); cap(all) != n {
			t.Errorf("Bytes of %d has room for %d", n, cap(all))
		}
		w.Put(uint64(n), 1)
	}
}

// P2.1 and P2.2
func TestWhatIsWrittenIsRead(t *testing.T) {
	var w Writer
	x := uint64(0x9E3779B97F4A7C15)
	for i := range 200 {
		size := i%8 + 1
		w.Put(x>>(64-8*size), size)
		w.Append([]byte{byte(i)}, []byte{byte(i), 1})
		x = x*6364136223846793005 + 1442695040888963407
	}
	r := Read(w.Bytes())
	x = 0x9E3779B97F4A7C15
	for i := range 200 {
		size := i%8 + 1
		left := r.Left()
		if n, ok := r.Take(size); n != x>>(64-8*size) || !ok {
			t.Fatalf("number %d: %#x, %t", i, n, ok)
		}
		if b, ok := r.Cut(3); !bytes.Equal(b, []byte{byte(i), byte(i), 1}) || !ok {
			t.Fatalf("part %d: %x, %t", i, b, ok)
		}
		if r.Left() != left-size-3 {
			t.Fatalf("%d are left of %d", r.Left(), left)
		}
		x = x*6364136223846793005 + 1442695040888963407
	}
	if r.Left() != 0 {
		t.Errorf("%d are left", r.Left())
	}
}
