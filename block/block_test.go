package block

import (
	"bytes"
	"math"
	"testing"
)

// some: a block without a pattern, another one for each seed, the same ones each time.
func some(size int, seed uint32) []byte {
	b := make([]byte, size)
	x := seed*2654435761 + 2463534242
	for i := range b {
		x ^= x << 13
		x ^= x >> 17
		x ^= x << 5
		b[i] = byte(x >> 11)
	}
	return b
}

// turned: what P3.1 tells, bit by bit.
func turned(to []byte, blocks ...[]byte) []byte {
	all := bytes.Clone(to)
	for _, b := range blocks {
		for bit := range 8 * len(b) {
			mask := byte(1) << (bit % 8)
			if b[bit/8]&mask == 0 {
				continue
			}
			if all[bit/8]&mask == 0 {
				all[bit/8] += mask
			} else {
				all[bit/8] -= mask
			}
		}
	}
	return all
}

// P3.1
func TestXorOfTheExample(t *testing.T) {
	to := []byte{3, 3}
	if !Xor(to, []byte{1, 2}) || !bytes.Equal(to, []byte{2, 1}) {
		t.Errorf("1, 2 upon 3, 3: %v", to)
	}
}

// P3.1
func TestXorTurnsEachBitThatIsSet(t *testing.T) {
	for to := range 256 {
		for of := range 256 {
			b := []byte{byte(to), 0xA5, byte(of)}
			want := turned(b, []byte{byte(of), 0, byte(to)})
			if !Xor(b, []byte{byte(of), 0, byte(to)}) || !bytes.Equal(b, want) {
				t.Fatalf("%#x upon %#x: %x, want %x", of, to, b, want)
			}
		}
	}
}

// P3.1
func TestXorOfAllLengthsAndNumbersOfBlocks(t *testing.T) {
	for size := range 70 {
		for n := range 6 {
			to := some(size, 99)
			var blocks [][]byte
			for k := range n {
				blocks = append(blocks, some(size, uint32(k)))
			}
			want := turned(to, blocks...)
			if !Xor(to, blocks...) || !bytes.Equal(to, want) {
				t.Errorf("%d blocks of %d bytes: %x, want %x", n, size, to, want)
			}
		}
	}
}

// P3.1: a block that is put upon another one twice is as if it never was.
func TestXorTwiceIsNothing(t *testing.T) {
	x, y := some(33, 1), some(33, 2)
	to := some(33, 3)
	if !Xor(to, x, y, x) || !Xor(to, y) || !bytes.Equal(to, some(33, 3)) {
		t.Errorf("%x", to)
	}
}

// P3.1: a block of no bytes is one, too.
func TestXorOfNothing(t *testing.T) {
	if !Xor(nil) || !Xor([]byte{}) || !Xor(nil, nil, []byte{}) || !Xor([]byte{}, nil) {
		t.Error("blocks of no bytes are refused")
	}
	to := []byte{7}
	if !Xor(to) || to[0] != 7 {
		t.Errorf("no blocks: %v", to)
	}
	if Xor(nil, []byte{0}) || Xor(to, nil) || Xor(to, []byte{}) || to[0] != 7 {
		t.Errorf("blocks that aren't as long aren't refused: %v", to)
	}
}

// P3.1, and P2: a refused Xor changes nothing, wherever the block stands that isn't as long.
func TestXorRefusesAllOrNothing(t *testing.T) {
	for _, size := range []int{0, 1, 4, 6, 8, 10} {
		for at := range 3 {
			blocks := [][]byte{some(5, 1), some(5, 2), some(5, 3)}
			blocks[at] = some(size, 4)
			to := some(5, 5)
			if Xor(to, blocks...) || !bytes.Equal(to, some(5, 5)) {
				t.Errorf("a block of %d bytes as number %d isn't refused, or leaves %x", size, at, to)
			}
		}
	}
}

// P2: of what is handed in only the block itself is changed, not the room behind it.
func TestXorChangesNothingElse(t *testing.T) {
	roomy := some(12, 1)
	to := roomy[2:7]
	other := some(12, 2)
	blocks := [][]byte{other[:5], other[5:10]}
	if !Xor(to, blocks...) {
		t.Fatal("refused")
	}
	was := some(12, 1)
	if !bytes.Equal(roomy[:2], was[:2]) || !bytes.Equal(roomy[7:], was[7:]) {
		t.Errorf("around the block: %x, was %x", roomy, was)
	}
	if !bytes.Equal(other, some(12, 2)) || len(blocks) != 2 || &blocks[0][0] != &other[0] || &blocks[1][0] != &other[5] {
		t.Errorf("the blocks that are put upon it: %x", other)
	}
}

// P1: of blocks that share memory nothing is promised but that it ends.
func TestXorOfItselfEnds(t *testing.T) {
	b := some(9, 1)
	Xor(b, b)
	Xor(b[1:], b[:8])
	Xor(b[:8], b[1:], b[:8])
}

// P3.1
func TestSum(t *testing.T) {
	for size := range 40 {
		for n := range 6 {
			var blocks [][]byte
			for k := range n {
				blocks = append(blocks, some(size, uint32(k)))
			}
			want := turned(make([]byte, size), blocks...)
			sum, ok := Sum(size, blocks...)
			if !ok || !bytes.Equal(sum, want) {
				t.Errorf("%d blocks of %d bytes: %x, %v, want %x", n, size, sum, ok, want)
			}
		}
	}
	if sum, ok := Sum(2, []byte{1, 2}, []byte{3, 3}); !ok || !bytes.Equal(sum, []byte{2, 1}) {
		t.Errorf("1, 2 and 3, 3: %v", sum)
	}
}

// P3.1
func TestSumOfTheGreatestSize(t *testing.T) {
	const size = 1 << 24
	b := make([]byte, size)
	b[0], b[size-1] = 1, 2
	sum, ok := Sum(size, b)
	if !ok || !bytes.Equal(sum, b) {
		t.Error("a block of 2^24 bytes")
	}
	if sum, ok = Sum(size); !ok || len(sum) != size || !Zero(sum) {
		t.Error("no blocks of 2^24 bytes")
	}
}

// P3.1
func TestSumRefuses(t *testing.T) {
	refused := func(size int, blocks ...[]byte) {
		if sum, ok := Sum(size, blocks...); ok || sum != nil {
			t.Errorf("Sum(%d, %x): %x, %v", size, blocks, sum, ok)
		}
	}
	for _, size := range []int{-1, -2, -8, math.MinInt} {
		refused(size)
		refused(size, nil)
		refused(size, []byte{1})
	}
	refused(0, []byte{0})
	refused(1, nil)
	refused(2, []byte{1})
	refused(2, []byte{1, 2, 3})
	refused(2, []byte{1, 2}, []byte{1})
	refused(2, []byte{1}, []byte{1, 2})
	refused(2, []byte{1, 2}, []byte{1, 2, 3}, []byte{1, 2})
}

// P1: sizes for which there is no memory.
func TestSumOfSizesBeyondAllEnds(t *testing.T) {
	for _, size := range []int{1<<24 + 1, 1 << 40, math.MaxInt - 1, math.MaxInt} {
		Sum(size)
		Sum(size, nil)
		Sum(size, []byte{1})
	}
}

// P2: the sum is new memory, even of one block, and what is handed in stays.
func TestSumIsNewMemory(t *testing.T) {
	roomy := some(8, 1)
	b := roomy[:4]
	one, _ := Sum(4, b)
	other, _ := Sum(4, b)
	one[0] ^= 0xFF
	_ = append(one, 1, 2, 3, 4)
	if !bytes.Equal(roomy, some(8, 1)) || !bytes.Equal(other, b) {
		t.Errorf("%x, %x", roomy, other)
	}
	b[1] ^= 0xFF
	if bytes.Equal(other, b) {
		t.Error("the sum changes with the block")
	}
}

// P3.2
func TestZero(t *testing.T) {
	if !Zero(nil) || !Zero([]byte{}) {
		t.Error("no bytes aren't all 0")
	}
	for size := 1; size < 40; size++ {
		b := make([]byte, size)
		if !Zero(b) {
			t.Errorf("%x", b)
		}
		for bit := range 8 * size {
			b[bit/8] = 1 << (bit % 8)
			if Zero(b) || b[bit/8] != 1<<(bit%8) {
				t.Errorf("%x", b)
			}
			b[bit/8] = 0
		}
	}
	// Bytes that would be nothing together, put upon each other or added up.
	if Zero([]byte{1, 1}) || Zero([]byte{1, 255}) || Zero([]byte{128, 128}) {
		t.Error("bytes that are nothing together")
	}
	// What stands behind the bytes isn't theirs.
	if !Zero([]byte{0, 0, 1}[:2]) {
		t.Error("the room behind is asked")
	}
}
