package segment

import (
	"bytes"
	"math"
	"slices"
	"testing"

	"almonry/api"
	"almonry/params"
)

// of: Params of an N and a B; the others don't matter.
func of(n, b int) api.Params { return api.Params{N: n, B: b, Q: 1, Eps: 1000, F: 2} }

// counted: so many bytes, none of them 0, so that noughts behind them are told from them.
func counted(many int) []byte {
	all := make([]byte, many)
	for i := range all {
		all[i] = byte(i%255 + 1)
	}
	return all
}

// split: the blocks of an object that can be cut.
func split(t *testing.T, p api.Params, object []byte) [][]byte {
	t.Helper()
	blocks, e := Split(p, object)
	if e != api.OK {
		t.Fatalf("Split(%+v, %d bytes): %v", p, len(object), e)
	}
	return blocks
}

// join: the object of blocks that can be put together.
func join(t *testing.T, p api.Params, length int, blocks ...[]byte) []byte {
	t.Helper()
	object, e := Join(p, length, blocks...)
	if e != api.OK {
		t.Fatalf("Join(%+v, %d, %d blocks): %v", p, length, len(blocks), e)
	}
	return object
}

// alike: are two lists of blocks the same?
func alike(one, other [][]byte) bool { return slices.EqualFunc(one, other, bytes.Equal) }

// P12.1, P12.2: the example.
func TestTwoBlocksOfTwoBytes(t *testing.T) {
	blocks := split(t, of(2, 2), []byte{1, 2, 3})
	if want := [][]byte{{1, 2}, {3, 0}}; !alike(blocks, want) {
		t.Errorf("Split: %v, want %v", blocks, want)
	}
	if got := join(t, of(2, 2), 3, []byte{1, 2}, []byte{3, 0}); !bytes.Equal(got, []byte{1, 2, 3}) {
		t.Errorf("Join: %v", got)
	}
}

// P12.1, P12.2: objects of all lengths that may be, byte by byte, there and back.
func TestObjectsOfAllLengths(t *testing.T) {
	for _, n := range []int{1, 2, 3, 7, 16} {
		for _, b := range []int{1, 2, 3, 8, 13} {
			p := of(n, b)
			for length := range n*b + 1 {
				object := counted(length)
				blocks := split(t, p, object)
				if len(blocks) != n {
					t.Fatalf("N %d, B %d, %d bytes: %d blocks", n, b, length, len(blocks))
				}
				for i, block := range blocks {
					if len(block) != b {
						t.Fatalf("N %d, B %d, %d bytes: block %d has %d bytes", n, b, length, i, len(block))
					}
					for k, got := range block {
						want := byte(0)
						if at := i*b + k; at < length {
							want = object[at]
						}
						if got != want {
							t.Fatalf("N %d, B %d, %d bytes: block %d is %v", n, b, length, i, block)
						}
					}
				}
				if got := join(t, p, length, blocks...); !bytes.Equal(got, object) {
					t.Fatalf("N %d, B %d: Join: %v, want %v", n, b, got, object)
				}
			}
		}
	}
}

// P12.2: of bytes behind the length nothing is to be seen, whatever they are.
func TestJoinOfOtherBytesBehind(t *testing.T) {
	blocks := [][]byte{{1, 2, 3}, {4, 5, 6}, {7, 8, 9}}
	for length := range 10 {
		got := join(t, of(3, 3), length, blocks...)
		if want := []byte{1, 2, 3, 4, 5, 6, 7, 8, 9}[:length]; !bytes.Equal(got, want) {
			t.Errorf("Join of %d: %v", length, got)
		}
	}
	one := []byte{1, 2}
	if got := join(t, of(3, 2), 5, one, one, one); !bytes.Equal(got, []byte{1, 2, 1, 2, 1}) {
		t.Errorf("Join of one block thrice: %v", got)
	}
}

// P12.1, P12.2: the most blocks, the greatest ones, and many great ones.
func TestTheGreatestObjects(t *testing.T) {
	for _, p := range []api.Params{of(1<<20, 1), of(1<<20, 3), of(1, 65535), of(500, 65535)} {
		most := params.Most(p)
		for _, length := range []int{0, 1, most - 1, most} {
			object := counted(length)
			blocks := split(t, p, object)
			if len(blocks) != p.N {
				t.Fatalf("%+v: %d blocks", p, len(blocks))
			}
			whole := append(object, make([]byte, most-length)...)
			if !bytes.Equal(bytes.Join(blocks, nil), whole) {
				t.Fatalf("%+v: %d bytes are other ones in blocks", p, length)
			}
			if !bytes.Equal(join(t, p, length, blocks...), whole[:length]) {
				t.Fatalf("%+v: %d bytes are other ones when put together", p, length)
			}
		}
		if blocks, e := Split(p, make([]byte, most+1)); len(blocks) != 0 || e != api.ErrLong {
			t.Errorf("%+v: Split of one byte too many: %d blocks, %v", p, len(blocks), e)
		}
	}
}

// P12.1: an object that is too long, by one byte or by many.
func TestSplitOfTooLong(t *testing.T) {
	for _, c := range []struct{ n, b, length int }{{1, 1, 2}, {2, 2, 5}, {3, 2, 7}, {2, 3, 7}, {1, 10, 11}, {10, 1, 11}, {2, 2, 100000}} {
		if blocks, e := Split(of(c.n, c.b), counted(c.length)); len(blocks) != 0 || e != api.ErrLong {
			t.Errorf("Split of %d bytes, N %d, B %d: %v, %v", c.length, c.n, c.b, blocks, e)
		}
	}
	// Only what an object has counts, not its spare room.
	if blocks := split(t, of(2, 2), counted(100)[:4]); !alike(blocks, [][]byte{{1, 2}, {3, 4}}) {
		t.Errorf("Split of 4 of 100 bytes: %v", blocks)
	}
}

// P12.2: all that is out of range.
func TestJoinOutOfRange(t *testing.T) {
	p := of(3, 2)
	good := [][]byte{{1, 2}, {3, 4}, {5, 6}}
	refused := func(length int, blocks ...[]byte) {
		t.Helper()
		if object, e := Join(p, length, blocks...); len(object) != 0 || e != api.ErrRange {
			t.Errorf("Join(%d, %v): %v, %v", length, blocks, object, e)
		}
	}
	for _, length := range []int{-1, -6, 7, 8, 1 << 32, -1 << 32, math.MinInt, math.MinInt + 1, math.MaxInt} {
		refused(length, good...)
	}
	for _, length := range []int{0, 1, 2, 4, 6} {
		refused(length)
		refused(length, nil)
		refused(length, good[:1]...)
		refused(length, good[:2]...)
		refused(length, append(slices.Clone(good), []byte{7, 8})...)
		refused(length, append(slices.Clone(good), nil)...)
		// One that the length doesn't reach has to be whole, too, and one that has more room has to fill it.
		for i := range good {
			for _, block := range [][]byte{nil, {}, {1}, {1, 2, 3}, make([]byte, 1, 2), make([]byte, 65535)} {
				wrong := slices.Clone(good)
				wrong[i] = block
				refused(length, wrong...)
			}
		}
	}
	refused(4, []byte{1}, []byte{2, 3, 4}, []byte{5, 6})
	refused(6, []byte{1, 2, 3}, []byte{4, 5, 6})
	if got := join(t, p, 6, good...); !bytes.Equal(got, counted(6)) {
		t.Errorf("Join: %v", got)
	}
}

// P12.1, P12.2: Params that may not be, ahead of all other errors.
func TestWrongParams(t *testing.T) {
	wrong := []api.Params{
		{},
		of(0, 1), of(-1, 1), of(1<<20+1, 1), of(math.MaxInt, 1), of(math.MinInt, 1),
		of(1, 0), of(1, -1), of(1, 65536), of(1, math.MaxInt), of(1, math.MinInt),
		of(0, 0), of(-1, -1), of(math.MaxInt, math.MaxInt), of(math.MinInt, math.MinInt), of(1<<32, 1<<32),
		{N: 1, B: 1, Q: 0, Eps: 1000, F: 2},
		{N: 1, B: 1, Q: 9, Eps: 1000, F: 2},
		{N: 1, B: 1, Q: 1, Eps: 0, F: 4096},
		{N: 1, B: 1, Q: 1, Eps: 1001, F: 2},
		{N: 1, B: 1, Q: 1, Eps: 1000, F: 1},
		{N: 1, B: 1, Q: 1, Eps: 1000, F: 4097},
		{N: 1, B: 1, Q: 1, Eps: 500, F: 2},
	}
	for _, p := range wrong {
		for _, length := range []int{0, 1, 2, 1000} {
			if blocks, e := Split(p, make([]byte, length)); len(blocks) != 0 || e != api.ErrParams {
				t.Errorf("Split(%+v, %d bytes): %v, %v", p, length, blocks, e)
			}
		}
		for _, length := range []int{0, 1, -1, 1000, math.MaxInt, math.MinInt} {
			for _, blocks := range [][][]byte{nil, {nil}, {{1}}, {{1}, {2}}} {
				if object, e := Join(p, length, blocks...); len(object) != 0 || e != api.ErrParams {
					t.Errorf("Join(%+v, %d, %v): %v, %v", p, length, blocks, object, e)
				}
			}
		}
	}
}

// P2: the blocks of an object share no memory with it, nor with each other, nor with those of another call.
func TestSplitAnswersNewMemory(t *testing.T) {
	p := of(4, 8)
	whole := counted(40)
	object := whole[:30]
	want := split(t, p, object)
	one, two := split(t, p, object), split(t, p, object)
	for i, block := range one {
		clear(block[:cap(block)])
		_ = append(block, 99, 99, 99)
		if !bytes.Equal(whole, counted(40)) {
			t.Fatal("a block shares memory with the object")
		}
		if !alike(one[i+1:], want[i+1:]) || !alike(two, want) {
			t.Fatal("two blocks share memory")
		}
	}
	clear(whole)
	if !alike(two, want) {
		t.Error("the object shares memory with a block")
	}
	if !alike(split(t, p, counted(30)), want) {
		t.Error("what was cut before makes a difference")
	}
}

// P2: an object that is put together shares no memory with its blocks; these, and their spare room, stay as they were.
func TestJoinAnswersNewMemory(t *testing.T) {
	for _, p := range []api.Params{of(1, 6), of(3, 2)} {
		room := counted(p.N * (p.B + 3))
		blocks := make([][]byte, p.N, p.N+2)
		var want []byte
		for i := range blocks {
			from := i * (p.B + 3)
			blocks[i] = room[from : from+p.B]
			want = append(want, blocks[i]...)
		}
		one, two := join(t, p, 6, blocks...), join(t, p, 6, blocks...)
		clear(one[:cap(one)])
		if !bytes.Equal(two, want) || !bytes.Equal(room, counted(len(room))) {
			t.Fatal("an answer shares memory")
		}
		if more := blocks[:cap(blocks)]; more[p.N] != nil || more[p.N+1] != nil {
			t.Fatal("the spare room of the blocks is another one")
		}
		clear(room)
		if !bytes.Equal(two, want) {
			t.Error("an answer shares memory with a block")
		}
	}
}

// P2: a call that is refused changes nothing that was handed in.
func TestRefusedCallsChangeNothing(t *testing.T) {
	object := counted(7)
	Split(of(3, 2), object)
	Split(of(0, 2), object)
	blocks := [][]byte{counted(2), counted(3), counted(2)}
	Join(of(3, 2), 6, blocks...)
	Join(of(3, 3), 6, blocks...)
	Join(of(2, 2), 5, blocks...)
	Join(of(3, 0), 0, blocks...)
	if !bytes.Equal(object, counted(7)) || !alike(blocks, [][]byte{counted(2), counted(3), counted(2)}) {
		t.Error("a refused call changes what it was handed")
	}
}

// P1: calls at all arguments end.
func TestCallsAtAllArguments(t *testing.T) {
	numbers := []int{math.MinInt, -1 << 32, -1, 0, 1, 2, 3, 1000, 4096, 65535, 65536, 1 << 20, 1<<20 + 1, 1 << 32, math.MaxInt}
	lists := [][][]byte{nil, {}, {nil}, {{}}, {{1}}, {{1, 2}, {3, 4}}, {{1, 2}, nil}}
	for _, n := range numbers {
		for _, b := range numbers {
			p := of(n, b)
			for _, length := range numbers {
				for _, blocks := range lists {
					Join(p, length, blocks...)
				}
			}
			// What would be answered has to stay below what a call may answer.
			if n < 1 || b < 1 || n > 1<<20 || b > 65535 || n*b <= 1<<22 {
				for _, object := range [][]byte{nil, {}, {1, 2, 3}} {
					Split(p, object)
				}
			}
		}
	}
}
