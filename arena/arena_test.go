package arena

import (
	"bytes"
	"math"
	"testing"
)

// wrong: numbers that no block of a small arena has.
var wrong = []int{-1, -2, 100, 1 << 20, math.MinInt, math.MaxInt}

// notGiven: numbers of blocks that aren't given out, those of an arena of so many, and wrong ones.
func notGiven(a *Arena, most int) []int {
	none := append([]int{}, wrong...)
	for i := range most + 1 {
		if !a.Has(i) {
			none = append(none, i)
		}
	}
	return none
}

// given: an arena with so many blocks given out, and their numbers.
func given(t *testing.T, size, n int) (*Arena, []int) {
	t.Helper()
	a := New(size, n)
	var numbers []int
	for range n {
		i, ok := a.Alloc()
		if !ok {
			t.Fatalf("Alloc is refused at %d of %d", len(numbers), n)
		}
		numbers = append(numbers, i)
	}
	return a, numbers
}

// holds: is the arena as it should be: these blocks given out, no others, and that peak?
func holds(t *testing.T, a *Arena, want map[int][]byte, most, peak int) {
	t.Helper()
	if a.Live() != len(want) || a.Peak() != peak {
		t.Fatalf("Live %d, Peak %d, want %d, %d", a.Live(), a.Peak(), len(want), peak)
	}
	for i := -1; i <= most; i++ {
		b, has := want[i]
		if a.Has(i) != has || !bytes.Equal(a.Get(i), b) || a.Zero(i) != (has && len(bytes.Trim(b, "\x00")) == 0) {
			t.Fatalf("block %d: Has %v, Get %x, Zero %v, want %v, %x", i, a.Has(i), a.Get(i), a.Zero(i), has, b)
		}
	}
}

// P4.1
func TestTheExample(t *testing.T) {
	a := New(3, 1)
	i, ok := a.Alloc()
	if !ok || i != 0 {
		t.Errorf("Alloc: %d, %v", i, ok)
	}
	a.Put(0, []byte{1, 2, 3})
	if i, ok = a.Alloc(); ok || i != 0 {
		t.Errorf("Alloc of no room: %d, %v", i, ok)
	}
	holds(t, a, map[int][]byte{0: {1, 2, 3}}, 1, 1)
	if !a.Free(0) {
		t.Error("Free is refused")
	}
	if i, ok = a.Alloc(); !ok || i != 0 {
		t.Errorf("Alloc again: %d, %v", i, ok)
	}
	holds(t, a, map[int][]byte{0: {0, 0, 0}}, 1, 1)
}

// P4.1, P4.3
func TestNoneIsGivenOutAtFirst(t *testing.T) {
	a := New(2, 3)
	if a.Size() != 2 {
		t.Errorf("Size %d", a.Size())
	}
	holds(t, a, nil, 3, 0)
}

// P4.1
func TestAllocGivesOutEachNumberOnce(t *testing.T) {
	const most = 50
	a, numbers := given(t, 1, most)
	seen := map[int]bool{}
	for _, i := range numbers {
		if i < 0 || i >= most || seen[i] || !a.Has(i) {
			t.Errorf("the number %d", i)
		}
		seen[i] = true
	}
	for range 3 {
		if i, ok := a.Alloc(); ok || i != 0 {
			t.Errorf("Alloc of no room: %d, %v", i, ok)
		}
	}
	if a.Live() != most || a.Peak() != most {
		t.Errorf("Live %d, Peak %d", a.Live(), a.Peak())
	}
}

// P4.1: whichever block comes back, there is room for just one, and its bytes are 0 again.
func TestAllocAfterFree(t *testing.T) {
	for back := range 3 {
		a, numbers := given(t, 2, 3)
		for _, i := range numbers {
			a.Put(i, []byte{255, 255})
		}
		if !a.Free(numbers[back]) {
			t.Error("Free is refused")
		}
		i, ok := a.Alloc()
		if !ok || i != numbers[back] || !a.Zero(i) || !bytes.Equal(a.Get(i), []byte{0, 0}) {
			t.Errorf("Alloc: %d, %v, %x, want %d", i, ok, a.Get(i), numbers[back])
		}
		for k, other := range numbers {
			if k != back && !bytes.Equal(a.Get(other), []byte{255, 255}) {
				t.Errorf("the block %d beside it is %x", other, a.Get(other))
			}
		}
		if _, ok := a.Alloc(); ok {
			t.Error("there is room for one more")
		}
	}
}

// P4.1, and P2
func TestFreeRefuses(t *testing.T) {
	a := New(1, 3)
	i, _ := a.Alloc()
	a.Put(i, []byte{9})
	k, _ := a.Alloc()
	a.Free(k)
	for _, no := range notGiven(a, 3) {
		if a.Free(no) {
			t.Errorf("Free(%d) isn't refused", no)
		}
		holds(t, a, map[int][]byte{i: {9}}, 3, 2)
	}
	// A second Free must not make room for two.
	for range 2 {
		if _, ok := a.Alloc(); !ok {
			t.Error("Alloc is refused")
		}
	}
	if _, ok := a.Alloc(); ok || a.Live() != 3 {
		t.Error("there is room for one more")
	}
}

// P4.1
func TestNewOfNoRoom(t *testing.T) {
	for _, most := range []int{0, -1, -5, math.MinInt} {
		a := New(4, most)
		for range 2 {
			if i, ok := a.Alloc(); ok || i != 0 {
				t.Errorf("most %d: Alloc: %d, %v", most, i, ok)
			}
		}
		if a.Free(0) || a.Has(0) || a.Live() != 0 || a.Peak() != 0 || a.Size() != 4 {
			t.Errorf("most %d", most)
		}
	}
}

// P4.1, P4.3: blocks of no bytes are given out as others are.
func TestNewOfNoBytes(t *testing.T) {
	for _, size := range []int{0, -1, math.MinInt} {
		a, numbers := given(t, size, 2)
		i, k := numbers[0], numbers[1]
		if a.Size() != 0 || i == k || a.Live() != 2 || !a.Has(i) || !a.Zero(i) || len(a.Get(i)) != 0 {
			t.Errorf("size %d: Size %d, Live %d", size, a.Size(), a.Live())
		}
		if !a.Put(i) || !a.Put(i, nil, []byte{}) || a.Put(i, []byte{0}) || !a.Onto(i, k) || a.Onto(i, i) {
			t.Errorf("size %d: Put, Onto", size)
		}
		if !a.Free(i) || a.Has(i) || a.Zero(i) || a.Put(i) || a.Onto(k, i) || a.Live() != 1 {
			t.Errorf("size %d: Free", size)
		}
	}
}

// P4.1
func TestNewOfTheGreatestSize(t *testing.T) {
	const size = 1 << 24
	a := New(size, 1)
	i, ok := a.Alloc()
	if !ok || a.Size() != size || len(a.Get(i)) != size || !a.Zero(i) {
		t.Error("a block of 2^24 bytes")
	}
}

// P1: room for more than there ever is, and sizes for which there is no memory.
func TestNewBeyondAllEnds(t *testing.T) {
	a := New(1, math.MaxInt)
	for want := 1; want <= 1000; want++ {
		if i, ok := a.Alloc(); !ok || !a.Has(i) || a.Live() != want {
			t.Fatalf("Alloc: %d, %v", i, ok)
		}
	}
	for _, size := range []int{1<<24 + 1, 1 << 40, math.MaxInt} {
		for _, most := range []int{1, math.MaxInt, math.MinInt} {
			a := New(size, most)
			for _, i := range []int{0, 1, -1, math.MaxInt} {
				a.Alloc()
				a.Put(i, []byte{1}, nil)
				a.Onto(i, 0)
				a.Get(i)
				a.Zero(i)
				a.Has(i)
				a.Free(i)
			}
			a.Size()
			a.Live()
			a.Peak()
		}
	}
}

// P4.2, and P1: numbers that no block has.
func TestNumbersOfNoBlock(t *testing.T) {
	a := New(1, 4)
	i, _ := a.Alloc()
	k, _ := a.Alloc()
	a.Free(k)
	for _, no := range notGiven(a, 4) {
		if a.Has(no) || a.Zero(no) || len(a.Get(no)) != 0 {
			t.Errorf("Has, Zero, Get of %d", no)
		}
		if a.Put(no) || a.Put(no, []byte{1}) || a.Onto(no, i) || a.Onto(i, no) || a.Onto(no, no) {
			t.Errorf("Put, Onto of %d", no)
		}
		holds(t, a, map[int][]byte{i: {0}}, 4, 2)
	}
}

// P4.2
func TestPut(t *testing.T) {
	a, numbers := given(t, 2, 2)
	i, k := numbers[0], numbers[1]
	if !a.Put(i, []byte{1, 2}) || !a.Put(i) || !a.Put(i, []byte{3, 3}, []byte{16, 0}, []byte{0, 32}) {
		t.Error("Put is refused")
	}
	holds(t, a, map[int][]byte{i: {18, 33}, k: {0, 0}}, 2, 2)
	if !a.Put(i, []byte{18, 33}) || !a.Zero(i) {
		t.Error("a block upon itself isn't all 0")
	}
}

// P4.2, and P2: all parts or none, wherever the one stands that isn't as long.
func TestPutRefuses(t *testing.T) {
	a, numbers := given(t, 2, 1)
	i := numbers[0]
	a.Put(i, []byte{5, 6})
	for _, bad := range [][]byte{nil, {}, {1}, {1, 2, 3}, {1, 2, 3, 4}} {
		for at := range 3 {
			parts := [][]byte{{1, 1}, {2, 2}, {4, 4}}
			parts[at] = bad
			if a.Put(i, parts...) {
				t.Errorf("Put of %x isn't refused", parts)
			}
			holds(t, a, map[int][]byte{i: {5, 6}}, 1, 1)
		}
	}
}

// P4.2
func TestOnto(t *testing.T) {
	a, numbers := given(t, 2, 3)
	i, k, m := numbers[0], numbers[1], numbers[2]
	a.Put(i, []byte{1, 2})
	a.Put(k, []byte{3, 3})
	if !a.Onto(k, i) {
		t.Error("Onto is refused")
	}
	holds(t, a, map[int][]byte{i: {1, 2}, k: {2, 1}, m: {0, 0}}, 3, 3)
	if !a.Onto(m, k) || !a.Onto(k, m) {
		t.Error("Onto is refused")
	}
	holds(t, a, map[int][]byte{i: {1, 2}, k: {0, 0}, m: {2, 1}}, 3, 3)
	for _, one := range numbers {
		if a.Onto(one, one) {
			t.Errorf("Onto(%d, %d) isn't refused", one, one)
		}
	}
	holds(t, a, map[int][]byte{i: {1, 2}, k: {0, 0}, m: {2, 1}}, 3, 3)
}

// P2: what Get answers is new memory, and what Put was given isn't kept.
func TestMemory(t *testing.T) {
	a, numbers := given(t, 4, 2)
	i, k := numbers[0], numbers[1]
	roomy := []byte{1, 2, 3, 4, 5, 6}
	parts := [][]byte{roomy[:4]}
	a.Put(i, parts...)
	roomy[0] = 99
	one, other := a.Get(i), a.Get(i)
	one[1] = 99
	_ = append(one, 77, 77, 77, 77, 77, 77, 77, 77)
	if !bytes.Equal(other, []byte{1, 2, 3, 4}) {
		t.Errorf("another answer is %v", other)
	}
	holds(t, a, map[int][]byte{i: {1, 2, 3, 4}, k: {0, 0, 0, 0}}, 2, 2)
	a.Onto(i, k)
	a.Free(i)
	a.Alloc()
	if !bytes.Equal(other, []byte{1, 2, 3, 4}) || !bytes.Equal(roomy, []byte{99, 2, 3, 4, 5, 6}) || &parts[0][0] != &roomy[0] {
		t.Errorf("what was answered is %v, what was handed in %v", other, roomy)
	}
}

// P2: arenas don't know each other.
func TestArenasAreApart(t *testing.T) {
	a, numbers := given(t, 1, 1)
	i := numbers[0]
	b, _ := given(t, 1, 1)
	a.Put(i, []byte{1})
	holds(t, b, map[int][]byte{i: {0}}, 1, 1)
	b.Free(i)
	holds(t, a, map[int][]byte{i: {1}}, 1, 1)
}

// P4.3
func TestPeakStays(t *testing.T) {
	a, numbers := given(t, 1, 5)
	for n, i := range numbers {
		a.Free(i)
		if a.Live() != 4-n || a.Peak() != 5 {
			t.Errorf("Live %d, Peak %d", a.Live(), a.Peak())
		}
	}
	b := New(1, 5)
	for n, want := range []int{1, 1, 1} {
		i, _ := b.Alloc()
		b.Free(i)
		if b.Live() != 0 || b.Peak() != want {
			t.Errorf("round %d: Live %d, Peak %d", n, b.Live(), b.Peak())
		}
	}
	b.Alloc()
	b.Alloc()
	if b.Live() != 2 || b.Peak() != 2 {
		t.Errorf("Live %d, Peak %d", b.Live(), b.Peak())
	}
}

// model is an arena by the words of the chapter alone: which blocks are given out, and their bytes.
type model struct {
	most, peak int
	blocks     map[int][]byte
}

// alloc: whether the number that Alloc answered may be.
func (m *model) alloc(size, i int, ok bool) bool {
	if len(m.blocks) >= m.most {
		return i == 0 && !ok
	}
	if _, has := m.blocks[i]; has || !ok || i < 0 || i >= m.most {
		return false
	}
	m.blocks[i] = make([]byte, size)
	m.peak = max(m.peak, len(m.blocks))
	return true
}

func (m *model) free(i int) bool {
	_, has := m.blocks[i]
	delete(m.blocks, i)
	return has
}

func (m *model) put(i int, part []byte) bool {
	to, has := m.blocks[i]
	if !has || len(to) != len(part) {
		return false
	}
	for k := range to {
		to[k] ^= part[k]
	}
	return true
}

func (m *model) onto(to, from int) bool {
	part, has := m.blocks[from]
	return has && to != from && m.put(to, part)
}

// P4.1, P4.2, P4.3: many calls of all kinds, held against the model after each.
func TestAgainstTheModel(t *testing.T) {
	x := uint32(2463534242)
	draw := func(n int) int {
		x ^= x << 13
		x ^= x >> 17
		x ^= x << 5
		return int(x>>8) % n
	}
	for round := range 40 {
		size, most := draw(4), draw(8)
		a, m := New(size, most), &model{most: most, blocks: map[int][]byte{}}
		for range 300 {
			i, k := draw(most+2)-1, draw(most+2)-1
			part := bytes.Repeat([]byte{byte(draw(256))}, size+draw(8)/7)
			right := true
			switch draw(5) {
			case 0, 1:
				n, ok := a.Alloc()
				right = m.alloc(size, n, ok)
			case 2:
				right = a.Free(i) == m.free(i)
			case 3:
				right = a.Put(i, part) == m.put(i, part)
			case 4:
				right = a.Onto(i, k) == m.onto(i, k)
			}
			if !right {
				t.Fatalf("round %d: the arena answers otherwise", round)
			}
			holds(t, a, m.blocks, most, m.peak)
		}
	}
}
