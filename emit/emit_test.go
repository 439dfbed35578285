package emit

import (
	"bytes"
	"encoding/hex"
	"math"
	"slices"
	"testing"

	"almonry/api"
	"almonry/compose"
	"almonry/crc"
	"almonry/degree"
	"almonry/frame"
	"almonry/inner"
	"almonry/params"
	"almonry/rng"
	"almonry/sample"
)

// mixed: so many bytes, as if by chance.
func mixed(many int, seed uint64) []byte {
	r := rng.New(seed)
	all := make([]byte, many)
	for i := range all {
		all[i] = byte(r.Next())
	}
	return all
}

// encoder: that of an object that has one.
func encoder(t *testing.T, p api.Params, session uint64, object []byte) *Encoder {
	t.Helper()
	c, e := New(p, session, object)
	if e != api.OK || c == nil {
		t.Fatalf("New(%+v, %d, %d bytes): %v", p, session, len(object), e)
	}
	return c
}

// modelled: the composite blocks of an object, each of its bytes put into its message block and into all auxiliary ones that P10.1 draws for that.
func modelled(p api.Params, session uint64, object []byte) [][]byte {
	blocks := make([][]byte, params.All(p))
	for i := range blocks {
		blocks[i] = make([]byte, p.B)
	}
	for at, x := range object {
		message, k := at/p.B, at%p.B
		blocks[message][k] = x
		for _, auxiliary := range sample.Some(rng.New(session, 1, uint64(message)), params.Auxiliary(p), p.Q) {
			blocks[p.N+auxiliary][k] ^= x
		}
	}
	return blocks
}

// upon: some blocks, put upon each other.
func upon(size int, blocks [][]byte, of []int) []byte {
	sum := make([]byte, size)
	for _, i := range of {
		for k, x := range blocks[i] {
			sum[k] ^= x
		}
	}
	return sum
}

// same: are two packets alike?
func same(one, other api.Packet) bool {
	return one.Header == other.Header && bytes.Equal(one.Payload, other.Payload)
}

// ids: of check blocks, at edges and between.
func ids() []uint64 {
	all := []uint64{1<<32 - 1, 1 << 32, 1<<63 - 1, 1 << 63, math.MaxUint64 - 1, math.MaxUint64}
	for id := range uint64(60) {
		all = append(all, id)
	}
	return all
}

// small: Params of few blocks, at edges and between.
func small() []api.Params {
	return []api.Params{
		{N: 1, B: 1, Q: 1, Eps: 1000, F: 2},
		{N: 1, B: 5, Q: 8, Eps: 1, F: 4096},
		{N: 2, B: 2, Q: 1, Eps: 501, F: 2},
		{N: 3, B: 2, Q: 1, Eps: 1000, F: 2},
		{N: 10, B: 3, Q: 2, Eps: 400, F: 5},
		{N: 7, B: 4, Q: 8, Eps: 1000, F: 4096},
		{N: 60, B: 1, Q: 3, Eps: 200, F: 10},
	}
}

// P14.2: the example; an object of one block, that is one auxiliary block, too.
func TestAnObjectOfOneBlock(t *testing.T) {
	object := []byte("alms for all")
	c := encoder(t, api.Params{N: 1, B: len(object), Q: 1, Eps: 1000, F: 2}, 3, object)
	alone := 0
	for id := range uint64(100) {
		want := object
		if len(c.Blocks(id)) == 2 {
			// Both are alike, so nothing is left of them.
			want = make([]byte, len(object))
		} else {
			alone++
		}
		if got := c.Packet(id).Payload; !bytes.Equal(got, want) {
			t.Fatalf("Packet(%d) of %v: %q", id, c.Blocks(id), got)
		}
	}
	if alone < 10 || alone > 90 {
		t.Errorf("%d of 100 check blocks are of one block", alone)
	}
}

// P14.2: frames that were reckoned apart from the program.
func TestKnownFrames(t *testing.T) {
	counted := make([]byte, 100)
	for i := range counted {
		counted[i] = byte(i + 1)
	}
	great := make([]byte, 20)
	for i := range great {
		great[i] = byte(200 + i)
	}
	cases := []struct {
		p           api.Params
		session, id uint64
		object      []byte
		want        string
	}{
		{api.Params{N: 3, B: 2, Q: 1, Eps: 1000, F: 2}, 5, 0, []byte("alms!"), "414c0100000000000000050000000300020103e8000200000000000000050000000000000000406cb7cb2df2"},
		{api.Params{N: 3, B: 2, Q: 1, Eps: 1000, F: 2}, 5, 2, []byte("alms!"), "414c0100000000000000050000000300020103e80002000000000000000500000000000000022d1f251db68f"},
		{api.Params{N: 3, B: 2, Q: 1, Eps: 1000, F: 2}, 5, math.MaxUint64, []byte("alms!"), "414c0100000000000000050000000300020103e800020000000000000005ffffffffffffffff0c1f7f850a31"},
		{api.Params{N: 10, B: 3, Q: 2, Eps: 400, F: 5}, 4, 0, []byte("the object that is sent, ok"), "414c0100000000000000040000000a00030201900005000000000000001b0000000000000000207365ba10554f"},
		{api.Params{N: 10, B: 3, Q: 2, Eps: 400, F: 5}, 4, 1, []byte("the object that is sent, ok"), "414c0100000000000000040000000a00030201900005000000000000001b000000000000000104595eaf6aa08e"},
		{api.Params{N: 10, B: 3, Q: 2, Eps: 400, F: 5}, 4, 1 << 63, []byte("the object that is sent, ok"), "414c0100000000000000040000000a00030201900005000000000000001b8000000000000000206f6b5a587d2e"},
		{api.Params{N: 30, B: 4, Q: 3, Eps: 200, F: 10}, 9, 1, counted, "414c0100000000000000090000001e00040300c8000a00000000000000640000000000000001555657586852a9bd"},
		{api.Params{N: 30, B: 4, Q: 3, Eps: 200, F: 10}, 9, 4, counted, "414c0100000000000000090000001e00040300c8000a00000000000000640000000000000004151617384b7056fd"},
		{api.Params{N: 30, B: 4, Q: 3, Eps: 200, F: 10}, 9, 1 << 32, counted, "414c0100000000000000090000001e00040300c8000a0000000000000064000000010000000010101000f83abcea"},
		{api.Params{N: 1, B: 1, Q: 1, Eps: 10, F: 101}, 9, 0, nil, "414c01000000000000000900000001000101000a0065000000000000000000000000000000000054832ec9"},
		{api.Params{N: 5, B: 4, Q: 8, Eps: 1, F: 1001}, math.MaxUint64, 1, great, "414c01ffffffffffffffff00000005000408000103e900000000000000140000000000000001101010109c68facd"},
		{api.Params{N: 5, B: 4, Q: 8, Eps: 1, F: 1001}, math.MaxUint64, math.MaxUint64 - 1, great, "414c01ffffffffffffffff00000005000408000103e90000000000000014fffffffffffffffec4c5c6c7b838e67d"},
	}
	for _, c := range cases {
		if got := hex.EncodeToString(encoder(t, c.p, c.session, c.object).Frame(c.id)); got != c.want {
			t.Errorf("%+v, %d: Frame(%d): %s, want %s", c.p, c.session, c.id, got, c.want)
		}
	}
}

// P14.1, P14.2: packets, frames and composite blocks against a model, of objects of some lengths.
func TestPacketsAreAsTheyAreTold(t *testing.T) {
	codec := frame.New()
	for _, p := range small() {
		for _, session := range []uint64{0, 9, math.MaxUint64} {
			source, _ := inner.New(p, session)
			for _, length := range []int{0, 1, params.Most(p) / 2, params.Most(p) - 1, params.Most(p)} {
				object := mixed(length, session+uint64(length))
				blocks := modelled(p, session, object)
				c := encoder(t, p, session, object)
				for _, id := range ids() {
					want := api.Packet{
						Header:  api.Header{Session: session, Params: p, Length: length, ID: id},
						Payload: upon(p.B, blocks, source.Blocks(id)),
					}
					if got := c.Packet(id); !same(got, want) {
						t.Fatalf("Packet(%d): %+v, want %+v", id, got, want)
					}
					written, e := codec.Encode(want)
					if got := c.Frame(id); e != api.OK || !bytes.Equal(got, written) {
						t.Fatalf("Frame(%d): %v, want %v", id, got, written)
					}
				}
				for i, want := range blocks {
					if got := c.Composite(i); !bytes.Equal(got, want) {
						t.Fatalf("%+v: Composite(%d): %v, want %v", p, i, got, want)
					}
				}
			}
		}
	}
}

// P14.2: frames are read again as the packets that they are of.
func TestFramesAreReadAgain(t *testing.T) {
	for _, p := range small() {
		c := encoder(t, p, 12, mixed(params.Most(p), 1))
		for _, id := range ids() {
			f := c.Frame(id)
			if len(f) != frame.Over+p.B {
				t.Fatalf("Frame(%d) has %d bytes", id, len(f))
			}
			if got, e := frame.New().Parse(f); e != api.OK || !same(got, c.Packet(id)) {
				t.Fatalf("Frame(%d) is that of %+v, %v", id, got, e)
			}
		}
	}
}

// P14.2: none of a number that no composite block has.
func TestCompositeBlocksThatAreNot(t *testing.T) {
	for _, p := range small() {
		c := encoder(t, p, 12, mixed(params.Most(p), 1))
		all := params.All(p)
		for _, i := range []int{-1, -2, -all, all, all + 1, 1 << 20, 1 << 32, -1 << 32, math.MaxInt, math.MinInt} {
			if got := c.Composite(i); len(got) != 0 {
				t.Errorf("%+v: Composite(%d): %v", p, i, got)
			}
		}
	}
}

// P14.1, P14.2: the most blocks, the greatest ones, and check blocks of many.
func TestTheGreatestObjects(t *testing.T) {
	for _, p := range []api.Params{
		{N: 1 << 20, B: 1, Q: 1, Eps: 1000, F: 4096},
		{N: 1, B: 65535, Q: 8, Eps: 1000, F: 2},
		{N: 100, B: 65535, Q: 2, Eps: 100, F: 4096},
	} {
		object := mixed(params.Most(p), 2)
		blocks := modelled(p, 6, object)
		c := encoder(t, p, 6, object)
		many := uint64(0)
		for p.F == 4096 && len(c.Blocks(many)) < 100 {
			many++
		}
		for _, id := range append(ids(), many) {
			of := c.Blocks(id)
			got := c.Packet(id)
			if got.Length != len(object) || !bytes.Equal(got.Payload, upon(p.B, blocks, of)) {
				t.Fatalf("%+v: Packet(%d) is another one", p, id)
			}
		}
		if last := params.All(p) - 1; !bytes.Equal(c.Composite(last), blocks[last]) || len(c.Composite(last+1)) != 0 {
			t.Errorf("%+v: Composite(%d)", p, last)
		}
		if c, e := New(p, 6, append(object, 0)); c != nil || e != api.ErrLong {
			t.Errorf("New(%+v) of one byte too many: %v", p, e)
		}
	}
}

// P14.1: Blocks's errors, in its order; only what an object has counts, not its spare room.
func TestNewOfWhatHasNone(t *testing.T) {
	wrong := []api.Params{
		{},
		{N: 0, B: 2, Q: 1, Eps: 1000, F: 2},
		{N: -1, B: 2, Q: 1, Eps: 1000, F: 2},
		{N: 1<<20 + 1, B: 2, Q: 1, Eps: 1000, F: 2},
		{N: math.MinInt, B: 2, Q: 1, Eps: 1000, F: 2},
		{N: 3, B: 0, Q: 1, Eps: 1000, F: 2},
		{N: 3, B: 65536, Q: 1, Eps: 1000, F: 2},
		{N: 3, B: 2, Q: 0, Eps: 1000, F: 2},
		{N: 3, B: 2, Q: 9, Eps: 1000, F: 2},
		{N: 3, B: 2, Q: 1, Eps: 0, F: 4096},
		{N: 3, B: 2, Q: 1, Eps: 1001, F: 2},
		{N: 3, B: 2, Q: 1, Eps: 1000, F: 1},
		{N: 3, B: 2, Q: 1, Eps: 1000, F: 4097},
		{N: 3, B: 2, Q: 1, Eps: 500, F: 2},
		{N: math.MaxInt, B: math.MaxInt, Q: math.MaxInt, Eps: math.MaxInt, F: math.MaxInt},
		{N: math.MinInt, B: math.MinInt, Q: math.MinInt, Eps: math.MinInt, F: math.MinInt},
	}
	for _, p := range wrong {
		for _, length := range []int{0, 1, 7, 1000} {
			if c, e := New(p, 4, make([]byte, length)); c != nil || e != api.ErrParams {
				t.Errorf("New(%+v, %d bytes): %v, %v", p, length, c, e)
			}
		}
	}
	for _, p := range small() {
		for _, more := range []int{1, 2, 100000} {
			if c, e := New(p, 4, make([]byte, params.Most(p)+more)); c != nil || e != api.ErrLong {
				t.Errorf("New(%+v) of %d bytes too many: %v, %v", p, more, c, e)
			}
		}
		roomy := mixed(params.Most(p)+10, 1)[:params.Most(p)]
		if got := encoder(t, p, 4, roomy).Packet(0).Length; got != len(roomy) {
			t.Errorf("New(%+v) with spare room: a Length of %d", p, got)
		}
	}
}

// An encoder has the calls of its source and of its codec, and of what these have.
func TestEncodersHaveTheCallsOfTheirParts(t *testing.T) {
	p := api.Params{N: 60, B: 3, Q: 3, Eps: 200, F: 10}
	c := encoder(t, p, 9, mixed(100, 1))
	source, _ := inner.New(p, 9)
	table, _ := degree.New(p)
	codec, sums := frame.New(), crc.New()
	if c.Most() != p.F {
		t.Errorf("Most(): %d", c.Most())
	}
	for _, id := range ids() {
		if got := c.Blocks(id); !slices.Equal(got, source.Blocks(id)) {
			t.Fatalf("Blocks(%d): %v", id, got)
		}
		if got := c.Of(rng.Mix(id)); got != table.Of(rng.Mix(id)) {
			t.Fatalf("Of(%d): %d", rng.Mix(id), got)
		}
		got, ok := c.Below(int(id))
		if want, has := table.Below(int(id)); got != want || ok != has {
			t.Fatalf("Below(%d): %d, %v", int(id), got, ok)
		}
		f := c.Frame(id)
		if q, e := c.Parse(f); e != api.OK || !same(q, c.Packet(id)) {
			t.Fatalf("Parse of Frame(%d): %+v, %v", id, q, e)
		}
		if !c.Right(f) || c.Sum(f) != sums.Sum(f) || !bytes.Equal(c.Seal(f), sums.Seal(f)) {
			t.Fatalf("sums of Frame(%d) are others", id)
		}
	}
	other := api.Packet{Header: api.Header{Session: 1, Params: api.Params{N: 1, B: 2, Q: 1, Eps: 1000, F: 2}}, Payload: []byte{1, 2}}
	got, e := c.Encode(other)
	if want, _ := codec.Encode(other); e != api.OK || !bytes.Equal(got, want) {
		t.Errorf("Encode of another packet: %v, %v", got, e)
	}
	if got, e := c.Encode(api.Packet{}); e != api.ErrParams || len(got) != 0 {
		t.Errorf("Encode of the zero packet: %v, %v", got, e)
	}
}

// told: all that an encoder says.
func told(c *Encoder, all int) [][]byte {
	var l [][]byte
	for _, id := range ids() {
		l = append(l, c.Frame(id), c.Packet(id).Payload)
	}
	for i := range all {
		l = append(l, c.Composite(i))
	}
	return l
}

// alike: are two lists of bytes the same?
func alike(one, other [][]byte) bool { return slices.EqualFunc(one, other, bytes.Equal) }

// P2, P14.1: an encoder doesn't keep the object, nor change it.
func TestTheObjectIsNotKept(t *testing.T) {
	for _, p := range small() {
		whole := mixed(params.Most(p)+10, 1)
		object := whole[:params.Most(p)]
		c := encoder(t, p, 4, object)
		want := told(c, params.All(p))
		if !bytes.Equal(whole, mixed(len(whole), 1)) {
			t.Fatal("the object is changed")
		}
		New(p, 4, whole)
		New(api.Params{}, 4, whole)
		if !bytes.Equal(whole, mixed(len(whole), 1)) {
			t.Fatal("a refused call changes the object")
		}
		for i := range whole {
			whole[i] ^= 255
		}
		if !alike(told(c, params.All(p)), want) {
			t.Fatal("the object is kept")
		}
	}
}

// P2: what is answered is new memory, and what is done with it makes no difference to the encoder.
func TestAnswersAreNewMemory(t *testing.T) {
	for _, p := range small() {
		object := mixed(params.Most(p), 1)
		c, other := encoder(t, p, 4, object), encoder(t, p, 4, object)
		want := told(c, params.All(p))
		one, two := told(c, params.All(p)), told(c, params.All(p))
		for i, b := range one {
			b = b[:cap(b)]
			for k := range b {
				b[k] = ^b[k]
			}
			if !alike(two, want) || !alike(one[i+1:], want[i+1:]) {
				t.Fatalf("%+v: two answers share memory", p)
			}
		}
		if !alike(told(c, params.All(p)), want) || !alike(told(other, params.All(p)), want) || !bytes.Equal(object, mixed(len(object), 1)) {
			t.Fatalf("%+v: an answer that is changed changes an encoder, or the object", p)
		}
		of := c.Blocks(1)
		for k := range of {
			of[k] = -1
		}
		if !alike(told(c, params.All(p)), want) {
			t.Fatalf("%+v: numbers that are changed change an encoder", p)
		}
	}
}

// P1, P2: calls at all arguments end, in whatever order, and leave an encoder as it was.
func TestEncodersStayAsTheyAre(t *testing.T) {
	p := api.Params{N: 60, B: 3, Q: 3, Eps: 200, F: 10}
	object := mixed(100, 1)
	c := encoder(t, p, 7, object)
	want := told(c, params.All(p))
	first := c.Packet(5)
	for n := 150; n > -150; n-- {
		c.Packet(uint64(n))
		c.Packet(rng.Mix(uint64(n)))
		c.Frame(uint64(n))
		c.Frame(rng.Mix(uint64(n)))
		c.Composite(n)
		c.Composite(int(rng.Mix(uint64(n))))
		c.Encode(api.Packet{Header: api.Header{Length: n}})
		c.Parse(object[:min(max(n, 0), 100)])
		New(api.Params{N: n, B: n, Q: n, Eps: n, F: n}, uint64(n), object)
		New(p, uint64(n), object[:min(max(n, 0), 100)])
	}
	if !alike(told(c, params.All(p)), want) || !same(c.Packet(5), first) || first.ID != 5 {
		t.Error("an encoder is another one after other calls")
	}
}

// P14.2: the composite blocks are those of compose, by the same session alone.
func TestSessionsDiffer(t *testing.T) {
	p := api.Params{N: 60, B: 3, Q: 3, Eps: 200, F: 10}
	object := mixed(180, 1)
	blocks, _ := compose.Blocks(p, 7, object)
	c := encoder(t, p, 7, object)
	var all [][]byte
	for i := range blocks {
		all = append(all, c.Composite(i))
	}
	if !compose.Right(p, 7, 180, all...) || compose.Right(p, 8, 180, all...) || !alike(all, blocks) {
		t.Error("the composite blocks aren't those of compose")
	}
	want := told(c, 0)
	for _, session := range []uint64{0, 6, 8, 7 << 32, 7 + 1<<32, 7 + 1<<63, math.MaxUint64} {
		other := encoder(t, p, session, object)
		if alike(told(other, 0), want) || other.Packet(3).Session != session {
			t.Errorf("the session %#x makes what 7 makes", session)
		}
	}
}
