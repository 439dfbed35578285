package crc

import (
	"bytes"
	"testing"
)

// some: bytes without a pattern that a wrong sum could fit, the same ones each time.
func some(n int) []byte {
	b := make([]byte, n)
	x := uint32(2463534242)
	for i := range b {
		x ^= x << 13
		x ^= x >> 17
		x ^= x << 5
		b[i] = byte(x >> 11)
	}
	return b
}

// divided: the sum as P1.1 tells it, by long division bit by bit, without a table.
func divided(b []byte) uint32 {
	var bits []byte
	for _, x := range b {
		for k := range 8 {
			bits = append(bits, x>>(7-k)&1)
		}
	}
	bits = append(bits, make([]byte, 32)...)
	for i := range 32 {
		bits[i] ^= 1
	}
	for i := range len(bits) - 32 {
		if bits[i] == 0 {
			continue
		}
		bits[i] = 0
		for k := range 32 {
			bits[i+1+k] ^= byte(uint32(Poly) >> (31 - k) & 1)
		}
	}
	var rest uint32
	for _, bit := range bits[len(bits)-32:] {
		rest = rest<<1 | uint32(bit)
	}
	return ^rest
}

// turn: bytes with those bits turned that are set in the mask, its highest bit laid upon bit number at.
func turn(b []byte, at int, mask uint32) []byte {
	turned := bytes.Clone(b)
	for k := range 32 {
		if mask>>(31-k)&1 == 1 {
			turned[(at+k)/8] ^= 0x80 >> ((at + k) % 8)
		}
	}
	return turned
}

// P1.1
func TestSumOfKnownBytes(t *testing.T) {
	cases := []struct {
		text string
		want uint32
	}{
		{"", 0},
		{"123456789", 0xFC891918},
		{"\x00", 0xB1F7404B},
		{"\x00\x00\x00\x00", 0x38FB2284},
		{"\xFF\xFF\xFF\xFF", 0xFFFFFFFF},
	}
	for _, c := range cases {
		if got := New().Sum([]byte(c.text)); got != c.want {
			t.Errorf("Sum(%q): %#x, want %#x", c.text, got, c.want)
		}
	}
}

// P1.1
func TestSumIsWhatDivisionLeaves(t *testing.T) {
	table := New()
	for x := range 256 {
		for _, b := range [][]byte{{byte(x)}, {0, byte(x)}, {byte(x), 0xFF, 0, 1}, {1, 2, 3, 4, byte(x)}} {
			if got, want := table.Sum(b), divided(b); got != want {
				t.Fatalf("Sum(%x): %#x, want %#x", b, got, want)
			}
		}
	}
	for n := range 300 {
		b := some(n)
		if got, want := table.Sum(b), divided(b); got != want {
			t.Fatalf("Sum of %d bytes: %#x, want %#x", n, got, want)
		}
	}
}

// P1.1
func TestSumOfPartsIsThatOfTheWhole(t *testing.T) {
	table := New()
	b := some(20)
	want := divided(b)
	for i := range len(b) + 1 {
		for j := i; j <= len(b); j++ {
			if got := table.Sum(b[:i], b[i:j], nil, []byte{}, b[j:]); got != want {
				t.Fatalf("cut at %d and %d: %#x, want %#x", i, j, got, want)
			}
		}
	}
	if table.Sum() != 0 || table.Sum(nil) != 0 || table.Sum(nil, []byte{}, nil) != 0 {
		t.Error("the sum of no bytes isn't 0")
	}
	if table.Sum([]byte{1}, []byte{2}) == table.Sum([]byte{2}, []byte{1}) {
		t.Error("the order of parts makes no difference")
	}
}

// P1.1
func TestEachTableIsAsGoodAsAnother(t *testing.T) {
	first, second := New(), New()
	first.Sum(some(50))
	first.Seal(some(9))
	first.Right(some(9))
	if *first != *second || *first != *New() {
		t.Error("tables differ")
	}
}

// P1.2
func TestSealLaysTheSumBehind(t *testing.T) {
	table := New()
	if got := table.Seal([]byte("123456789")); string(got) != "123456789\xFC\x89\x19\x18" {
		t.Errorf("Seal: %x", got)
	}
	if got := table.Seal(nil); string(got) != "\x00\x00\x00\x00" {
		t.Errorf("Seal of nothing: %x", got)
	}
	for n := range 100 {
		b := some(n)
		s := divided(b)
		want := append(bytes.Clone(b), byte(s>>24), byte(s>>16), byte(s>>8), byte(s))
		got := table.Seal(b)
		if !bytes.Equal(got, want) {
			t.Fatalf("Seal of %d bytes: %x, want %x", n, got, want)
		}
		if !table.Right(got) {
			t.Fatalf("what Seal answers of %d bytes isn't Right", n)
		}
	}
}

// P1.2
func TestRightOfFewBytes(t *testing.T) {
	table := New()
	for _, b := range [][]byte{nil, {}, {0}, {0, 0}, {0, 0, 0}, {0xFF, 0xFF, 0xFF}} {
		if table.Right(b) {
			t.Errorf("%x is Right, and has fewer than four bytes", b)
		}
	}
	if !table.Right([]byte{0, 0, 0, 0}) {
		t.Error("the seal of no bytes isn't Right")
	}
	for x := 1; x < 256; x++ {
		for i := range 4 {
			b := make([]byte, 4)
			b[i] = byte(x)
			if table.Right(b) {
				t.Fatalf("%x is Right", b)
			}
		}
	}
}

// P1.2
func TestRightOfOtherBytes(t *testing.T) {
	table := New()
	b := table.Seal(some(12))
	for n := range len(b) {
		if table.Right(b[:n]) {
			t.Errorf("the first %d bytes are Right", n)
		}
	}
	for i := range b {
		for x := 1; x < 256; x++ {
			wrong := bytes.Clone(b)
			wrong[i] ^= byte(x)
			if table.Right(wrong) {
				t.Fatalf("byte %d changed by %#x, and Right", i, x)
			}
		}
	}
	n := len(b)
	backward := append(bytes.Clone(b[:n-4]), b[n-1], b[n-2], b[n-3], b[n-4])
	if table.Right(backward) || table.Right(append(bytes.Clone(b), 0)) || table.Right(b[1:]) {
		t.Error("Right of bytes that Seal never answers")
	}
}

// P1.3
func TestTurnedBitsInARowAreTold(t *testing.T) {
	table := New()
	for _, n := range []int{0, 1, 3, 4, 9, 40} {
		b := table.Seal(some(n))
		for at := range 8*len(b) - 31 {
			for i := range 32 {
				for j := range 32 {
					if table.Right(turn(b, at, 1<<i|1<<j)) {
						t.Fatalf("%d bytes, bits %d and %d from %d on turned, and Right", n, i, j, at)
					}
				}
			}
			mask := uint32(at) + 1
			for range 50 {
				mask = mask*1664525 + 1013904223
				if mask != 0 && table.Right(turn(b, at, mask)) {
					t.Fatalf("%d bytes, %#x turned from bit %d on, and Right", n, mask, at)
				}
			}
			if table.Right(turn(b, at, ^uint32(0))) {
				t.Fatalf("%d bytes, all bits turned from bit %d on, and Right", n, at)
			}
		}
	}
}

// P1.3, for all masks at once: how far the sum is off is, of several turned bits, what it is of each, put upon each other; so if none of 32 of these is made of others, no mask leaves it as it is.
func TestNoMaskOf32BitsIsMissed(t *testing.T) {
	table := New()
	b := table.Seal(some(30))
	off := func(x []byte) uint32 { return table.Sum(x[:len(x)-4]) ^ number(x[len(x)-4:]) }
	for at := range 8*len(b) - 31 {
		var basis [32]uint32
		for k := range 32 {
			d := off(turn(b, at, 1<<k))
			for d != 0 {
				high := 31
				for d>>high == 0 {
					high--
				}
				if basis[high] == 0 {
					basis[high] = d
					break
				}
				d ^= basis[high]
			}
			if d == 0 {
				t.Fatalf("from bit %d on, some turned bits with bit %d among them leave the bytes Right", at, k)
			}
		}
	}
}

// P1 and P2
func TestWhatIsHandedInStays(t *testing.T) {
	table := New()
	room := some(40)
	before := bytes.Clone(room)
	b := room[:20]
	table.Sum(b, b[5:], nil)
	sealed := table.Seal(b)
	table.Right(b)
	table.Right(sealed)
	if !bytes.Equal(room, before) {
		t.Error("bytes that were handed in, or their spare room, are changed")
	}
	want := bytes.Clone(sealed)
	clear(b)
	if !bytes.Equal(sealed, want) {
		t.Error("Seal's answer shares memory with its argument")
	}
	other := table.Seal(before[:20])
	clear(sealed[:cap(sealed)])
	if !bytes.Equal(other, want) || !bytes.Equal(table.Seal(before[:20]), want) {
		t.Error("Seal's answers share memory")
	}
}

// P2
func TestTablesKeepNothing(t *testing.T) {
	table := New()
	want := table.Sum([]byte("123456789"))
	for n := range 50 {
		table.Sum(some(n))
		table.Seal(some(n))
		table.Right(some(n))
		if got := table.Sum([]byte("123456789")); got != want {
			t.Fatalf("the sum is %#x after other calls, and was %#x", got, want)
		}
	}
}
