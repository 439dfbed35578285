package compose

import (
	"bytes"
	"encoding/hex"
	"math"
	"slices"
	"testing"

	"almonry/api"
	"almonry/outer"
	"almonry/params"
	"almonry/rng"
	"almonry/sample"
)

// counted: so many bytes, none of them 0, so that noughts behind them are told from them.
func counted(many int) []byte {
	all := make([]byte, many)
	for i := range all {
		all[i] = byte(i%255 + 1)
	}
	return all
}

// mixed: so many bytes, as if by chance.
func mixed(many int, seed uint64) []byte {
	r := rng.New(seed)
	all := make([]byte, many)
	for i := range all {
		all[i] = byte(r.Next())
	}
	return all
}

// composed: the composite blocks of an object that has some.
func composed(t *testing.T, p api.Params, session uint64, object []byte) [][]byte {
	t.Helper()
	blocks, e := Blocks(p, session, object)
	if e != api.OK {
		t.Fatalf("Blocks(%+v, %d, %d bytes): %v", p, session, len(object), e)
	}
	return blocks
}

// modelled: the composite blocks of an object, each of its bytes put into its message block and into all auxiliary ones that P10.1 draws for that.
func modelled(p api.Params, session uint64, object []byte) [][]byte {
	blocks := make([][]byte, params.All(p))
	for i := range blocks {
		blocks[i] = make([]byte, p.B)
	}
	for message := range p.N {
		in := sample.Some(rng.New(session, 1, uint64(message)), params.Auxiliary(p), p.Q)
		for k := range p.B {
			if at := message*p.B + k; at < len(object) {
				blocks[message][k] = object[at]
				for _, auxiliary := range in {
					blocks[p.N+auxiliary][k] ^= object[at]
				}
			}
		}
	}
	return blocks
}

// alike: are two lists of blocks the same?
func alike(one, other [][]byte) bool { return slices.EqualFunc(one, other, bytes.Equal) }

// copied: blocks, as new memory.
func copied(blocks [][]byte) [][]byte {
	all := make([][]byte, len(blocks))
	for i, b := range blocks {
		all[i] = bytes.Clone(b)
	}
	return all
}

// small: Params of few blocks, at edges and between.
func small() []api.Params {
	return []api.Params{
		{N: 1, B: 1, Q: 1, Eps: 1000, F: 2},
		{N: 1, B: 5, Q: 8, Eps: 1, F: 4096},
		{N: 2, B: 2, Q: 1, Eps: 501, F: 2},
		{N: 3, B: 2, Q: 1, Eps: 1000, F: 2},
		{N: 10, B: 3, Q: 2, Eps: 400, F: 5},
		{N: 7, B: 4, Q: 8, Eps: 1000, F: 4096},
		{N: 20, B: 1, Q: 3, Eps: 1000, F: 40},
	}
}

// wrongParams: some that may not be.
func wrongParams() []api.Params {
	return []api.Params{
		{},
		{N: 0, B: 2, Q: 1, Eps: 1000, F: 2},
		{N: -1, B: 2, Q: 1, Eps: 1000, F: 2},
		{N: 1<<20 + 1, B: 2, Q: 1, Eps: 1000, F: 2},
		{N: math.MaxInt, B: 2, Q: 1, Eps: 1000, F: 2},
		{N: math.MinInt, B: 2, Q: 1, Eps: 1000, F: 2},
		{N: 3, B: 0, Q: 1, Eps: 1000, F: 2},
		{N: 3, B: -1, Q: 1, Eps: 1000, F: 2},
		{N: 3, B: 65536, Q: 1, Eps: 1000, F: 2},
		{N: 3, B: 2, Q: 0, Eps: 1000, F: 2},
		{N: 3, B: 2, Q: 9, Eps: 1000, F: 2},
		{N: 3, B: 2, Q: 1, Eps: 0, F: 4096},
		{N: 3, B: 2, Q: 1, Eps: 1001, F: 2},
		{N: 3, B: 2, Q: 1, Eps: 1000, F: 1},
		{N: 3, B: 2, Q: 1, Eps: 1000, F: 4097},
		{N: 3, B: 2, Q: 1, Eps: 500, F: 2},
		{N: math.MaxInt, B: math.MaxInt, Q: math.MaxInt, Eps: math.MaxInt, F: math.MaxInt},
		{N: math.MinInt, B: math.MinInt, Q: math.MinInt, Eps: math.MinInt, F: math.MinInt},
	}
}

// P13.1, P13.2, P13.3: the example.
func TestTwoMessageBlocksInOneAuxiliary(t *testing.T) {
	p := api.Params{N: 2, B: 2, Q: 1, Eps: 501, F: 2}
	blocks := composed(t, p, 7, []byte{1, 2, 3})
	if want := [][]byte{{1, 2}, {3, 0}, {2, 2}}; !alike(blocks, want) {
		t.Errorf("Blocks: %v, want %v", blocks, want)
	}
	if !Right(p, 7, 3, []byte{1, 2}, []byte{3, 0}, []byte{2, 2}) {
		t.Error("Right of them: false")
	}
	if got, ok := Check(2, blocks, 0, 1); !ok || !bytes.Equal(got, []byte{2, 2}) {
		t.Errorf("Check: %v, %v", got, ok)
	}
}

// P13.1: blocks that were reckoned apart from the program; among them auxiliary ones that have none.
func TestKnownBlocks(t *testing.T) {
	cases := []struct {
		p       api.Params
		session uint64
		object  string
		want    []string
	}{
		{api.Params{N: 3, B: 2, Q: 1, Eps: 1000, F: 2}, 5, "alms!",
			[]string{"616c", "6d73", "2100", "2d1f", "0000"}},
		{api.Params{N: 10, B: 3, Q: 2, Eps: 400, F: 5}, 4, "the object that is sent, ok",
			[]string{"746865", "206f62", "6a6563", "742074", "686174", "206973", "207365", "6e742c", "206f6b", "000000", "1c4100", "000009", "18185e", "3a6934", "3e3063"}},
		{api.Params{N: 30, B: 1, Q: 3, Eps: 200, F: 10}, 9, string(counted(27)),
			[]string{"01", "02", "03", "04", "05", "06", "07", "08", "09", "0a", "0b", "0c", "0d", "0e", "0f", "10", "11", "12", "13", "14", "15", "16", "17", "18", "19", "1a", "1b", "00", "00", "00", "15", "17", "1d", "10", "07", "08", "14", "0f", "17", "0c"}},
		{api.Params{N: 5, B: 4, Q: 8, Eps: 1, F: 1001}, math.MaxUint64, string(counted(219)[199:]),
			[]string{"c8c9cacb", "cccdcecf", "d0d1d2d3", "d4d5d6d7", "d8d9dadb", "d8d9dadb", "d8d9dadb", "d8d9dadb", "d8d9dadb", "d8d9dadb", "d8d9dadb", "d8d9dadb", "d8d9dadb"}},
	}
	for _, c := range cases {
		var got []string
		for _, b := range composed(t, c.p, c.session, []byte(c.object)) {
			got = append(got, hex.EncodeToString(b))
		}
		if !slices.Equal(got, c.want) {
			t.Errorf("Blocks(%+v, %d): %v, want %v", c.p, c.session, got, c.want)
		}
	}
}

// P13.1, P13.2: objects of all lengths that may be, against a model; and no length is right but those up to which all bytes behind the last that isn't 0 reach.
func TestObjectsOfAllLengths(t *testing.T) {
	for _, p := range small() {
		for _, session := range []uint64{0, 9, math.MaxUint64} {
			for length := range params.Most(p) + 1 {
				object := counted(length)
				blocks := composed(t, p, session, object)
				if want := modelled(p, session, object); !alike(blocks, want) {
					t.Fatalf("Blocks(%+v, %d, %d bytes): %v, want %v", p, session, length, blocks, want)
				}
				for other := -3; other <= params.Most(p)+3; other++ {
					may := other >= length && other <= params.Most(p)
					if Right(p, session, other, blocks...) != may {
						t.Fatalf("Right(%+v, %d, %d) of an object of %d bytes: %v", p, session, other, length, !may)
					}
				}
			}
		}
	}
}

// P13.1: an auxiliary block that has no message block is 0 in all bytes, and all others aren't, of an object whose blocks are alike nowhere.
func TestAuxiliaryBlocksOfNone(t *testing.T) {
	p := api.Params{N: 6, B: 4, Q: 1, Eps: 1000, F: 2}
	none, some := 0, 0
	for session := range uint64(50) {
		blocks := composed(t, p, session, mixed(24, session))
		g, _ := outer.New(p, session)
		for auxiliary := range g.Auxiliary() {
			zero := bytes.Equal(blocks[p.N+auxiliary], make([]byte, 4))
			if has := g.Has(auxiliary); zero != (len(has) == 0) {
				t.Fatalf("session %d: the auxiliary block of %v: %v", session, has, blocks[p.N+auxiliary])
			}
			if zero {
				none++
			} else {
				some++
			}
		}
	}
	if none == 0 || some == 0 {
		t.Errorf("%d auxiliary blocks of none, %d of some", none, some)
	}
}

// P13.1, P13.2: the most blocks, the greatest ones, and many great ones.
func TestTheGreatestObjects(t *testing.T) {
	for _, p := range []api.Params{
		{N: 1 << 20, B: 1, Q: 1, Eps: 1000, F: 2},
		{N: 1 << 20, B: 1, Q: 4, Eps: 1, F: 4096},
		{N: 1, B: 65535, Q: 8, Eps: 1000, F: 2},
		{N: 200, B: 65535, Q: 2, Eps: 100, F: 11},
	} {
		most := params.Most(p)
		object := mixed(most, 3)
		object[most-1] = 1
		blocks := composed(t, p, 6, object)
		if !alike(blocks, modelled(p, 6, object)) {
			t.Fatalf("Blocks(%+v): others", p)
		}
		if !Right(p, 6, most, blocks...) || Right(p, 6, most-1, blocks...) || Right(p, 6, most+1, blocks...) {
			t.Errorf("Right(%+v)", p)
		}
		blocks[len(blocks)-1][p.B-1] ^= 128
		if Right(p, 6, most, blocks...) {
			t.Errorf("Right(%+v) of others: true", p)
		}
		if blocks, e := Blocks(p, 6, append(object, 0)); len(blocks) != 0 || e != api.ErrLong {
			t.Errorf("Blocks(%+v) of one byte too many: %d blocks, %v", p, len(blocks), e)
		}
	}
}

// P13.1: Split's errors, in its order; only what an object has counts, not its spare room.
func TestBlocksOfWhatHasNone(t *testing.T) {
	for _, p := range wrongParams() {
		for _, length := range []int{0, 1, 7, 1000} {
			if blocks, e := Blocks(p, 4, make([]byte, length)); len(blocks) != 0 || e != api.ErrParams {
				t.Errorf("Blocks(%+v, %d bytes): %v, %v", p, length, blocks, e)
			}
		}
	}
	for _, p := range small() {
		for _, more := range []int{1, 2, 100000} {
			if blocks, e := Blocks(p, 4, make([]byte, params.Most(p)+more)); len(blocks) != 0 || e != api.ErrLong {
				t.Errorf("Blocks(%+v) of %d bytes too many: %v, %v", p, more, blocks, e)
			}
		}
		roomy := counted(params.Most(p) + 10)[:params.Most(p)]
		if got := composed(t, p, 4, roomy); !alike(got, modelled(p, 4, counted(len(roomy)))) {
			t.Errorf("Blocks(%+v) with spare room: %v", p, got)
		}
	}
	if got := composed(t, api.Params{N: 2, B: 2, Q: 1, Eps: 501, F: 2}, 4, nil); !alike(got, [][]byte{{0, 0}, {0, 0}, {0, 0}}) {
		t.Errorf("Blocks of no object: %v", got)
	}
}

// P13.2: blocks in which any one bit is turned are not right.
func TestOneBitTurned(t *testing.T) {
	for _, p := range small() {
		most := params.Most(p)
		blocks := composed(t, p, 4, mixed(most, 1))
		for i, b := range blocks {
			for k := range b {
				for bit := range 8 {
					b[k] ^= 1 << bit
					if Right(p, 4, most, blocks...) {
						t.Fatalf("Right(%+v), block %d turned at byte %d, bit %d: true", p, i, k, bit)
					}
					b[k] ^= 1 << bit
				}
			}
		}
		if !Right(p, 4, most, blocks...) {
			t.Errorf("Right(%+v): false", p)
		}
	}
}

// P13.2: a bit that is turned in a message block, and in all auxiliary ones that it is in, is one of another object, as long as the object reaches there.
func TestBitsTurnedAlike(t *testing.T) {
	for _, p := range small() {
		g, _ := outer.New(p, 4)
		for _, length := range []int{0, 1, params.Most(p) / 2, params.Most(p)} {
			for at := range params.Most(p) {
				blocks := composed(t, p, 4, mixed(length, 1))
				message, k := at/p.B, at%p.B
				blocks[message][k] ^= 16
				for _, auxiliary := range g.Of(message) {
					blocks[p.N+auxiliary][k] ^= 16
				}
				if Right(p, 4, length, blocks...) != (at < length) {
					t.Fatalf("Right(%+v, %d), byte %d is another one: %v", p, length, at, at >= length)
				}
			}
		}
	}
}

// P13.2: too many blocks, too few, in another order, or of other sizes; even where they are all 0.
func TestRightOfOtherBlocks(t *testing.T) {
	p := api.Params{N: 10, B: 3, Q: 2, Eps: 400, F: 5}
	for _, object := range [][]byte{counted(27), make([]byte, 27), nil} {
		good := composed(t, p, 4, object)
		wrong := func(blocks ...[]byte) {
			t.Helper()
			for _, length := range []int{0, 27, 30} {
				if Right(p, 4, length, blocks...) {
					t.Errorf("Right(%d, %v): true", length, blocks)
				}
			}
		}
		if !Right(p, 4, 27, good...) {
			t.Errorf("Right(%v): false", good)
		}
		wrong()
		wrong(nil)
		for many := range good {
			wrong(good[:many]...)
			wrong(good[many+1:]...)
		}
		for _, more := range [][]byte{nil, {}, {0}, {0, 0, 0}} {
			wrong(append(slices.Clone(good), more)...)
			wrong(append([][]byte{more}, good...)...)
		}
		for i := range good {
			other := slices.Clone(good)
			for _, b := range [][]byte{nil, {}, good[i][:2], append(bytes.Clone(good[i]), 0), make([]byte, 2, 3), make([]byte, 65535)} {
				other[i] = b
				wrong(other...)
			}
			// As many bytes in all, but not in each of them.
			if i > 0 {
				other[i-1], other[i] = append(bytes.Clone(good[i-1]), good[i][0]), good[i][1:]
				wrong(other...)
			}
		}
	}
}

// P13.2: blocks in each other's place are only right if they are two message blocks that are in the same auxiliary ones, and so those of another object.
func TestRightInAnotherOrder(t *testing.T) {
	p := api.Params{N: 10, B: 3, Q: 2, Eps: 400, F: 5}
	g, _ := outer.New(p, 4)
	good := composed(t, p, 4, mixed(30, 1))
	for i := range good {
		for k := range i {
			other := slices.Clone(good)
			other[i], other[k] = other[k], other[i]
			may := i < p.N && slices.Equal(g.Of(i), g.Of(k))
			if Right(p, 4, 30, other...) != may {
				t.Errorf("Right with blocks %d and %d in each other's place: %v", i, k, !may)
			}
		}
	}
}

// P13.2: other sessions, other Params, and Params that may not be.
func TestRightByOthers(t *testing.T) {
	p := api.Params{N: 10, B: 3, Q: 2, Eps: 400, F: 5}
	good := composed(t, p, 4, mixed(30, 1))
	for _, session := range []uint64{0, 3, 5, 4 << 32, 4 + 1<<32, 4 + 1<<63, math.MaxUint64} {
		if Right(p, session, 30, good...) {
			t.Errorf("Right by the session %#x: true", session)
		}
	}
	for _, other := range []api.Params{
		{N: 9, B: 3, Q: 2, Eps: 400, F: 5},
		{N: 11, B: 3, Q: 2, Eps: 400, F: 5},
		{N: 10, B: 2, Q: 2, Eps: 400, F: 5},
		{N: 10, B: 4, Q: 2, Eps: 400, F: 5},
		{N: 10, B: 3, Q: 1, Eps: 800, F: 5},
		{N: 10, B: 3, Q: 3, Eps: 400, F: 5},
		{N: 10, B: 3, Q: 2, Eps: 600, F: 5},
		{N: 1 << 20, B: 65535, Q: 8, Eps: 1000, F: 4096},
		{N: 10, B: 3, Q: 2, Eps: 400, F: 2},
		{N: 10, B: 3, Q: 2, Eps: 400, F: 4097},
	} {
		if Right(other, 4, 30, good...) {
			t.Errorf("Right by %+v: true", other)
		}
	}
	// F has no part in it, as long as it may be.
	if !Right(api.Params{N: 10, B: 3, Q: 2, Eps: 400, F: 4096}, 4, 30, good...) {
		t.Error("Right by another F: false")
	}
	zero := [][]byte{{0, 0}, {0, 0}, {0, 0}, {0, 0}, {0, 0}}
	for _, p := range wrongParams() {
		for many := range len(zero) + 1 {
			if Right(p, 4, 0, zero[:many]...) || Right(p, 4, 0, make([][]byte, many)...) {
				t.Errorf("Right(%+v) of %d blocks: true", p, many)
			}
		}
	}
}

// P13.2: lengths out of all range.
func TestRightOfOtherLengths(t *testing.T) {
	p := api.Params{N: 3, B: 2, Q: 1, Eps: 1000, F: 2}
	zero := composed(t, p, 4, nil)
	for _, length := range []int{math.MinInt, math.MinInt + 1, -1 << 32, -6, -1, 7, 8, 10, 1 << 32, math.MaxInt} {
		if Right(p, 4, length, zero...) {
			t.Errorf("Right of %d bytes: true", length)
		}
	}
	for length := range 7 {
		if !Right(p, 4, length, zero...) {
			t.Errorf("Right of %d noughts: false", length)
		}
	}
}

// P13.3: some blocks, put upon each other, in whatever order, and again.
func TestCheck(t *testing.T) {
	blocks := [][]byte{{1, 2}, {3, 3}, {128, 255}, {0, 0}}
	for _, c := range []struct {
		of   []int
		want []byte
	}{
		{nil, []byte{0, 0}},
		{[]int{0}, []byte{1, 2}},
		{[]int{3}, []byte{0, 0}},
		{[]int{0, 1}, []byte{2, 1}},
		{[]int{1, 0}, []byte{2, 1}},
		{[]int{0, 1, 2, 3}, []byte{130, 254}},
		{[]int{3, 2, 1, 0}, []byte{130, 254}},
		{[]int{2, 2}, []byte{0, 0}},
		{[]int{2, 2, 2}, []byte{128, 255}},
		{[]int{0, 1, 0}, []byte{3, 3}},
		{[]int{0, 0, 1, 1}, []byte{0, 0}},
	} {
		if got, ok := Check(2, blocks, c.of...); !ok || !bytes.Equal(got, c.want) {
			t.Errorf("Check of %v: %v, %v, want %v", c.of, got, ok, c.want)
		}
	}
	for _, size := range []int{0, 1, 3, 65535, 1 << 24} {
		if got, ok := Check(size, blocks); !ok || !bytes.Equal(got, make([]byte, size)) {
			t.Errorf("Check(%d) of no block: %d bytes, %v", size, len(got), ok)
		}
	}
	if got, ok := Check(0, [][]byte{nil, {}}, 0, 1, 1); !ok || len(got) != 0 {
		t.Errorf("Check of blocks without bytes: %v, %v", got, ok)
	}
	great := mixed(1<<24, 2)
	if got, ok := Check(1<<24, [][]byte{great}, 0); !ok || !bytes.Equal(got, great) {
		t.Error("Check of a great block: another one")
	}
}

// P13.3: against a model, of many blocks.
func TestCheckOfMany(t *testing.T) {
	r := rng.New(8)
	for range 300 {
		size := r.Below(20)
		blocks := make([][]byte, 1+r.Below(30))
		for i := range blocks {
			blocks[i] = mixed(size, r.Next())
		}
		of := make([]int, r.Below(60))
		want := make([]byte, size)
		for i := range of {
			of[i] = r.Below(len(blocks))
			for k, x := range blocks[of[i]] {
				want[k] ^= x
			}
		}
		if got, ok := Check(size, blocks, of...); !ok || !bytes.Equal(got, want) {
			t.Fatalf("Check(%d, %v, %v): %v, %v, want %v", size, blocks, of, got, ok, want)
		}
	}
}

// P13.3: blocks that aren't there, or are of another size, wherever they stand; those that aren't asked for don't matter.
func TestCheckOfWhatIsNot(t *testing.T) {
	blocks := [][]byte{{1, 2}, {3}, nil, {}, {4, 5, 6}, {7, 8}, make([]byte, 1, 2)}
	refused := func(size int, of ...int) {
		t.Helper()
		if got, ok := Check(size, blocks, of...); ok || len(got) != 0 {
			t.Errorf("Check(%d) of %v: %v, %v", size, of, got, ok)
		}
	}
	for _, i := range []int{-1, -2, -7, 7, 8, 1 << 32, -1 << 32, math.MinInt, math.MaxInt, 1, 2, 3, 4, 6} {
		refused(2, i)
		refused(2, i, i)
		refused(2, 0, i)
		refused(2, i, 0)
		refused(2, 0, i, 5)
		refused(2, 0, 5, 0, 5, i)
	}
	for _, size := range []int{-1, -2, -1 << 32, math.MinInt, math.MinInt + 1} {
		refused(size)
		refused(size, 0)
		refused(size, 2)
		refused(size, 3)
		refused(size, 7)
	}
	refused(0, 0)
	refused(1, 0)
	refused(3, 0)
	refused(0, 1)
	refused(1, 2)
	if got, ok := Check(2, blocks, 0, 5); !ok || !bytes.Equal(got, []byte{6, 10}) {
		t.Errorf("Check of 0 and 5: %v, %v", got, ok)
	}
	for _, of := range []int{-1, 0, 1} {
		if got, ok := Check(0, nil, of); ok || len(got) != 0 {
			t.Errorf("Check of %d of no blocks: %v, %v", of, got, ok)
		}
	}
	if got, ok := Check(2, nil); !ok || !bytes.Equal(got, []byte{0, 0}) {
		t.Errorf("Check of none of no blocks: %v, %v", got, ok)
	}
}

// P2: composite blocks share no memory with the object, nor with each other, nor with those of another call; the object stays as it was, and its spare room.
func TestBlocksAreNewMemory(t *testing.T) {
	// Of an N of 1, an auxiliary block is as its only message block is.
	for _, p := range append(small(), api.Params{N: 1, B: 16, Q: 2, Eps: 501, F: 2}) {
		whole := counted(params.Most(p) + 10)
		object := whole[:params.Most(p)]
		want := composed(t, p, 5, object)
		one, two := composed(t, p, 5, object), composed(t, p, 5, object)
		for i, b := range one {
			for k := range b[:cap(b)] {
				b[:cap(b)][k] = 99
			}
			if !bytes.Equal(whole, counted(len(whole))) {
				t.Fatal("a block shares memory with the object")
			}
			if !alike(one[i+1:], want[i+1:]) || !alike(two, want) {
				t.Fatal("two blocks share memory")
			}
		}
		clear(whole)
		if !alike(two, want) {
			t.Fatal("the object shares memory with a block")
		}
		clear(one[:cap(one)])
		if !alike(two, want) || !alike(composed(t, p, 5, counted(params.Most(p))), want) {
			t.Fatal("what was answered before makes a difference")
		}
	}
}

// P2: what Check answers shares no memory with a block.
func TestCheckAnswersNewMemory(t *testing.T) {
	room := counted(12)
	blocks := [][]byte{room[0:4], room[4:8]}
	for _, of := range [][]int{{}, {0}, {1}, {0, 1}, {0, 0}} {
		want, _ := Check(4, blocks, of...)
		one, _ := Check(4, blocks, of...)
		two, _ := Check(4, blocks, of...)
		for k := range one[:cap(one)] {
			one[:cap(one)][k] = 99
		}
		if !bytes.Equal(room, counted(12)) || !bytes.Equal(two, want) {
			t.Fatalf("Check of %v answers memory that is shared", of)
		}
	}
	got, _ := Check(4, blocks, 0)
	clear(room)
	if !bytes.Equal(got, counted(4)) {
		t.Error("a block shares memory with what Check answers")
	}
}

// P2: Right and Check change nothing that they are handed, be they refused or not.
func TestNothingIsChanged(t *testing.T) {
	p := api.Params{N: 10, B: 3, Q: 2, Eps: 400, F: 5}
	good := composed(t, p, 4, counted(27))
	roomy := make([][]byte, len(good), len(good)+2)
	for i, b := range good {
		roomy[i] = append(make([]byte, 0, 8), b...)
	}
	of := append(make([]int, 0, 9), 3, 1, 2, 1, -1)
	for _, length := range []int{-1, 0, 26, 27, 30, 31} {
		Right(p, 4, length, roomy...)
		Right(p, 5, length, roomy...)
		Right(p, 4, length, roomy[1:]...)
		Right(api.Params{}, 4, length, roomy...)
		Check(length, roomy, of...)
		Check(3, roomy, of...)
		Check(3, roomy, of[:4]...)
		Check(3, roomy[:2], of...)
	}
	if !alike(roomy, good) || roomy[:cap(roomy)][len(good)] != nil || roomy[:cap(roomy)][len(good)+1] != nil {
		t.Error("blocks are changed")
	}
	for _, b := range roomy {
		if !bytes.Equal(b[3:8], make([]byte, 5)) {
			t.Error("the spare room of a block is changed")
		}
	}
	if !slices.Equal(of[:9], []int{3, 1, 2, 1, -1, 0, 0, 0, 0}) {
		t.Error("numbers are changed")
	}
	if !Right(p, 4, 27, roomy...) {
		t.Error("calls before make a difference")
	}
	object := counted(31)
	Blocks(p, 4, object)
	Blocks(api.Params{}, 4, object)
	if !bytes.Equal(object, counted(31)) {
		t.Error("a refused call changes the object")
	}
	before := copied(good)
	clear(roomy[0])
	if !alike(good, before) {
		t.Error("blocks share memory with others")
	}
}

// P1: calls at all arguments end.
func TestCallsAtAllArguments(t *testing.T) {
	numbers := []int{math.MinInt, -1 << 32, -1, 0, 1, 2, 3, 1000, 65536, 1 << 20, 1<<20 + 1, 1<<24 + 1, 1 << 32, math.MaxInt}
	lists := [][][]byte{nil, {}, {nil}, {{}}, {{1}}, {{1, 2}, {3, 4}}, {{1, 2}, nil}, {{0}, {0}, {0}}}
	for _, n := range numbers {
		for _, m := range numbers {
			for _, blocks := range lists {
				Check(n, blocks, m)
				Check(n, blocks, m, n, 0)
				for _, q := range []int{-1, 1, 8} {
					p := api.Params{N: n, B: m, Q: q, Eps: 1000, F: 2}
					for _, length := range numbers {
						Right(p, uint64(m), length, blocks...)
					}
				}
			}
			// What would be answered has to stay below what a call may answer.
			if p := (api.Params{N: n, B: m, Q: 8, Eps: 1000, F: 2}); params.Check(p) != api.OK || n*m < 1<<20 {
				Blocks(p, uint64(n), nil)
				Blocks(p, uint64(n), []byte{1, 2, 3})
			}
		}
	}
	Right(api.Params{N: 1 << 20, B: 1, Q: 1, Eps: 1000, F: 2}, 1, 0, make([][]byte, 1<<20)...)
	Right(api.Params{N: 1 << 20, B: 1, Q: 1, Eps: 1000, F: 2}, 1, 0, make([][]byte, 1<<20+1)...)
}
