package frame

import (
	"bytes"
	"encoding/binary"
	"math"
	"testing"

	"almonry/api"
	"almonry/params"
)

// raw is a frame's head as numbers, those that no header has among them.
type raw struct {
	magic          uint16
	version        uint8
	session        uint64
	n              uint32
	b              uint16
	q              uint8
	eps, f         uint16
	length, number uint64
}

// small: a head that may be, of three blocks of two bytes.
var small = raw{magic: 0x414C, version: 1, session: 5, n: 3, b: 2, q: 1, eps: 1000, f: 2, length: 6, number: 9}

// head: the 38 bytes of it, as P6.1 tells them.
func (r raw) head() []byte {
	b := binary.BigEndian.AppendUint16(nil, r.magic)
	b = append(b, r.version)
	b = binary.BigEndian.AppendUint64(b, r.session)
	b = binary.BigEndian.AppendUint32(b, r.n)
	b = binary.BigEndian.AppendUint16(b, r.b)
	b = append(b, r.q)
	b = binary.BigEndian.AppendUint16(b, r.eps)
	b = binary.BigEndian.AppendUint16(b, r.f)
	b = binary.BigEndian.AppendUint64(b, r.length)
	return binary.BigEndian.AppendUint64(b, r.number)
}

// frame: the head, a payload, and the sum of both.
func (r raw) frame(payload []byte) []byte { return sealed(append(r.head(), payload...)) }

// sealed: bytes with their sum behind them.
func sealed(b []byte) []byte { return binary.BigEndian.AppendUint32(bytes.Clone(b), sumOf(b)) }

// sumOf: layer 1's sum, bit by bit, without its package.
func sumOf(b []byte) uint32 {
	rest := ^uint32(0)
	for _, x := range b {
		for k := range 8 {
			high := rest>>31 ^ uint32(x>>(7-k)&1)
			rest <<= 1
			if high == 1 {
				rest ^= 0x04C11DB7
			}
		}
	}
	return ^rest
}

// of: a packet's head as numbers.
func of(h api.Header) raw {
	return raw{magic: Magic, version: Version, session: h.Session, n: uint32(h.N), b: uint16(h.B), q: uint8(h.Q), eps: uint16(h.Eps), f: uint16(h.F), length: uint64(h.Length), number: h.ID}
}

// some: bytes without a pattern, the same ones each time.
func some(n int) []byte {
	b := make([]byte, n)
	x := uint32(2463534242)
	for i := range b {
		x ^= x << 13
		x ^= x >> 17
		x ^= x << 5
		b[i] = byte(x >> 11)
	}
	return b
}

// headers: those that may be, at the edges of all their numbers.
func headers() []api.Header {
	var all []api.Header
	for _, p := range []api.Params{
		{N: 1, B: 1, Q: 1, Eps: 1000, F: 2},
		{N: 3, B: 2, Q: 1, Eps: 501, F: 2},
		{N: 100, B: 8, Q: 3, Eps: 100, F: 200},
		{N: 0x01234, B: 0x123, Q: 5, Eps: 0x102, F: 0x304},
		{N: 7, B: 256, Q: 8, Eps: 1, F: 1001},
		{N: 1 << 20, B: 65535, Q: 8, Eps: 1000, F: 4096},
		{N: 1 << 20, B: 1, Q: 2, Eps: 999, F: 4095},
	} {
		most := p.N * p.B
		for _, length := range []int{0, 1, most / 2, most - 1, most} {
			for _, number := range []uint64{0, 1, 0x0102030405060708, 1 << 63, math.MaxUint64} {
				all = append(all, api.Header{Session: ^number ^ 0x55, Params: p, Length: length, ID: number})
			}
		}
	}
	return all
}

// wrongHeaders: those that may not be, each for one reason.
func wrongHeaders() []api.Header {
	p := api.Params{N: 3, B: 2, Q: 1, Eps: 1000, F: 2}
	all := []api.Header{{}}
	for _, length := range []int{7, 8, 1 << 32, math.MaxInt, -1, -6, math.MinInt} {
		all = append(all, api.Header{Params: p, Length: length})
	}
	for _, n := range []int{0, -1, 1<<20 + 1, 1<<32 + 3, math.MinInt, math.MaxInt} {
		for which := range 5 {
			bad := p
			*[]*int{&bad.N, &bad.B, &bad.Q, &bad.Eps, &bad.F}[which] = n
			all = append(all, api.Header{Session: 5, Params: bad, ID: 9})
		}
	}
	return append(all,
		api.Header{Params: api.Params{N: 3, B: 2, Q: 1, Eps: 500, F: 2}},
		api.Header{Params: api.Params{N: 3, B: 2, Q: 1, Eps: 1000, F: 1}},
		api.Header{Params: api.Params{N: 3, B: 2, Q: 9, Eps: 1000, F: 2}},
		api.Header{Params: api.Params{N: 3, B: 2, Q: 1, Eps: 1001, F: 2}},
		api.Header{Params: api.Params{N: 3, B: 2, Q: 1, Eps: 1000, F: 4097}},
		api.Header{Params: api.Params{N: 3, B: 65536, Q: 1, Eps: 1000, F: 2}},
	)
}

// refuses: does Parse answer just that error, and the zero Packet?
func refuses(t *testing.T, b []byte, want api.Errno) {
	t.Helper()
	if p, e := New().Parse(b); e != want || p.Header != (api.Header{}) || len(p.Payload) != 0 {
		t.Errorf("Parse(%.60x): %+v, %v, want %v", b, p.Header, e, want)
	}
}

// P6.1
func TestTheForm(t *testing.T) {
	if Magic != 0x414C || Version != 1 || Head != 38 || Over != 42 {
		t.Error("the form is another one")
	}
}

// P6.1, P6.2: a frame as it stands on the wire, byte by byte.
func TestAKnownFrame(t *testing.T) {
	p := api.Packet{
		Header:  api.Header{Session: 0x0102030405060708, Params: api.Params{N: 0x0A0B0C, B: 2, Q: 7, Eps: 0x0203, F: 0x0E0F}, Length: 0x00141617, ID: 0xF1F2F3F4F5F6F7F8},
		Payload: []byte{0xAA, 0xBB},
	}
	want := "\x41\x4C" + "\x01" + "\x01\x02\x03\x04\x05\x06\x07\x08" + "\x00\x0A\x0B\x0C" + "\x00\x02" + "\x07" + "\x02\x03" + "\x0E\x0F" +
		"\x00\x00\x00\x00\x00\x14\x16\x17" + "\xF1\xF2\xF3\xF4\xF5\xF6\xF7\xF8" + "\xAA\xBB"
	b, e := New().Encode(p)
	if e != api.OK || !bytes.Equal(b, sealed([]byte(want))) || len(b) != 44 {
		t.Errorf("Encode: %x, %v", b, e)
	}
	if sumOf([]byte("123456789")) != 0xFC891918 {
		t.Error("the test's own sum is wrong")
	}
}

// P6.1, P6.2, P6.3: at the edges of all numbers, Encode answers the frame, and Parse the packet again.
func TestThereAndBack(t *testing.T) {
	c := New()
	for _, h := range headers() {
		payload := some(h.B)
		if Check(h) != api.OK {
			t.Errorf("Check(%+v): %v", h, Check(h))
		}
		b, e := c.Encode(api.Packet{Header: h, Payload: payload})
		if e != api.OK || len(b) != 42+h.B || !bytes.Equal(b, of(h).frame(payload)) {
			t.Fatalf("Encode of %+v: %v, %.60x", h, e, b)
		}
		p, e := c.Parse(b)
		if e != api.OK || p.Header != h || !bytes.Equal(p.Payload, payload) {
			t.Fatalf("Parse of %+v: %v, %+v", h, e, p.Header)
		}
	}
}

// P6.2
func TestCheckRefuses(t *testing.T) {
	for _, h := range wrongHeaders() {
		if Check(h) != api.ErrParams {
			t.Errorf("Check(%+v): %v", h, Check(h))
		}
	}
}

// P6.2: an object may have just Most bytes.
func TestCheckOfTheLength(t *testing.T) {
	for _, h := range headers() {
		h.Length = params.Most(h.Params)
		if Check(h) != api.OK {
			t.Errorf("Check(%+v): %v", h, Check(h))
		}
		for _, length := range []int{h.Length + 1, -1, math.MaxInt, math.MinInt} {
			h.Length = length
			if Check(h) != api.ErrParams {
				t.Errorf("Check(%+v): %v", h, Check(h))
			}
		}
	}
}

// P6.2: a header that may not be is told first, whatever the payload is; a payload of another size behind it.
func TestEncodeRefuses(t *testing.T) {
	c := New()
	payloads := [][]byte{nil, {}, {1}, {1, 2}, {1, 2, 3}, some(65535), some(65536), some(65538)}
	refused := func(h api.Header, payload []byte, want api.Errno) {
		if b, e := c.Encode(api.Packet{Header: h, Payload: payload}); e != want || len(b) != 0 {
			t.Errorf("Encode of %+v and %d bytes: %d bytes, %v, want %v", h, len(payload), len(b), e, want)
		}
	}
	for _, h := range wrongHeaders() {
		for _, payload := range payloads {
			refused(h, payload, api.ErrParams)
		}
	}
	for _, h := range headers() {
		for _, payload := range payloads {
			if len(payload) != h.B {
				refused(h, payload, api.ErrLength)
			}
		}
	}
}

// P6.2: each codec reads what another one writes, whatever they did before.
func TestEachCodecIsAsGoodAsAnother(t *testing.T) {
	p := api.Packet{Header: headers()[0], Payload: []byte{7}}
	one, other := New(), New()
	first, _ := one.Encode(p)
	one.Parse(first[:40])
	one.Parse(append(bytes.Clone(first), 1))
	one.Encode(api.Packet{})
	second, _ := other.Encode(p)
	third, _ := one.Encode(p)
	if !bytes.Equal(first, second) || !bytes.Equal(first, third) {
		t.Errorf("%x, %x, %x", first, second, third)
	}
	if got, e := other.Parse(first); e != api.OK || got.Header != p.Header || !bytes.Equal(got.Payload, p.Payload) {
		t.Errorf("Parse: %+v, %v", got, e)
	}
}

// The section 'Ways', layer 6: a codec has the calls of its table.
func TestACodecHasTheCallsOfItsTable(t *testing.T) {
	c := New()
	b, _ := c.Encode(api.Packet{Header: headers()[0], Payload: []byte{7}})
	if !c.Right(b) || !bytes.Equal(c.Seal(b[:len(b)-4]), b) || c.Sum([]byte("123456789")) != 0xFC891918 {
		t.Error("the table's calls")
	}
}

// P6.3
func TestParseOfFewBytes(t *testing.T) {
	b := small.frame([]byte{7, 8})
	for n := range 42 {
		refuses(t, b[:n], api.ErrShort)
		refuses(t, make([]byte, n), api.ErrShort)
		refuses(t, bytes.Repeat([]byte{255}, n), api.ErrShort)
		refuses(t, sealed(b[:max(n-4, 0)])[:n], api.ErrShort)
	}
	refuses(t, nil, api.ErrShort)
	refuses(t, make([]byte, 42), api.ErrMagic)
	// A frame has a byte of payload at least, so none of 42 bytes is one.
	refuses(t, b[:42], api.ErrLength)
	none := small
	none.b = 0
	refuses(t, none.frame(nil), api.ErrParams)
}

// P6.3: all other numbers but Magic and Version are refused, whichever of their bits differ.
func TestParseOfOtherForms(t *testing.T) {
	payload := []byte{7, 8}
	for x := range 1 << 16 {
		if r := small; x != 0x414C {
			r.magic = uint16(x)
			refuses(t, r.frame(payload), api.ErrMagic)
		}
	}
	for x := range 256 {
		if r := small; x != 1 {
			r.version = uint8(x)
			refuses(t, r.frame(payload), api.ErrVersion)
		}
	}
}

// P6.3: frames with a right sum, of headers that may not be.
func TestParseOfWrongHeaders(t *testing.T) {
	change := []func(r *raw){
		func(r *raw) { r.n, r.length = 0, 0 },
		func(r *raw) { r.n = 1<<20 + 1 },
		func(r *raw) { r.n = math.MaxUint32 },
		func(r *raw) { r.n = 1 << 31 },
		func(r *raw) { r.b, r.length = 0, 0 },
		func(r *raw) { r.q = 0 },
		func(r *raw) { r.q = 9 },
		func(r *raw) { r.q = 255 },
		func(r *raw) { r.eps = 0 },
		func(r *raw) { r.eps = 500 },
		func(r *raw) { r.eps = 1001 },
		func(r *raw) { r.eps = 65535 },
		func(r *raw) { r.f = 0 },
		func(r *raw) { r.f = 1 },
		func(r *raw) { r.f = 4097 },
		func(r *raw) { r.f = 65535 },
		func(r *raw) { r.length = 7 },
		func(r *raw) { r.length = 1<<32 + 6 },
		func(r *raw) { r.length = 1<<63 - 1 },
		func(r *raw) { r.length = 1 << 63 },
		func(r *raw) { r.length = 1<<63 + 6 },
		func(r *raw) { r.length = math.MaxUint64 },
	}
	for _, by := range change {
		r := small
		by(&r)
		refuses(t, r.frame([]byte{7, 8}), api.ErrParams)
		refuses(t, r.frame(nil), api.ErrParams)
		refuses(t, r.frame(make([]byte, 300)), api.ErrParams)
	}
}

// P6.3: a right sum behind too few or too many bytes of payload doesn't help.
func TestParseOfOtherLengths(t *testing.T) {
	for _, size := range []int{1, 2, 3, 255, 256, 257, 65535} {
		r := small
		r.b, r.length = uint16(size), 0
		for _, n := range []int{0, 1, size - 1, size + 1, size + 4, size + 256, 65536, size + 65536} {
			if n != size {
				refuses(t, r.frame(some(n)), api.ErrLength)
			}
		}
		b := r.frame(some(size))
		refuses(t, append(bytes.Clone(b), 0), api.ErrLength)
		refuses(t, append(bytes.Clone(b), b...), api.ErrLength)
		if p, e := New().Parse(b); e != api.OK || !bytes.Equal(p.Payload, some(size)) {
			t.Errorf("Parse of %d bytes of payload: %v", size, e)
		}
	}
}

// P6.3: another sum isn't theirs, nor is the right one backwards; a turned bit anywhere is told.
func TestParseOfWrongSums(t *testing.T) {
	b := small.frame([]byte{7, 8})
	for i := 40; i < 44; i++ {
		for x := 1; x < 256; x++ {
			wrong := bytes.Clone(b)
			wrong[i] ^= byte(x)
			refuses(t, wrong, api.ErrSum)
		}
	}
	refuses(t, append(bytes.Clone(b[:40]), b[43], b[42], b[41], b[40]), api.ErrSum)
	for bit := range 8 * len(b) {
		wrong := bytes.Clone(b)
		wrong[bit/8] ^= 1 << (bit % 8)
		want := api.ErrSum
		switch at := bit / 8; {
		case at < 2:
			want = api.ErrMagic
		case at < 3:
			want = api.ErrVersion
		case at >= 11 && at < 30:
			// These may be other Params, or none, or say another length.
			if p, e := New().Parse(wrong); e == api.OK || p.Header != (api.Header{}) || len(p.Payload) != 0 {
				t.Errorf("bit %d turned: %v", bit, e)
			}
			continue
		}
		refuses(t, wrong, want)
	}
}

// P6.3, and rule 1: of all faults that bytes have together, the first is told.
func TestTheOrderOfErrors(t *testing.T) {
	order := []api.Errno{api.ErrShort, api.ErrMagic, api.ErrVersion, api.ErrParams, api.ErrLength, api.ErrSum}
	for faults := 1; faults < 1<<len(order); faults++ {
		has := func(e int) bool { return faults>>e&1 == 1 }
		r, payload := small, []byte{7, 8}
		if has(1) {
			r.magic = 0x4C41
		}
		if has(2) {
			r.version = 2
		}
		if has(3) {
			r.q = 0
		}
		if has(4) {
			payload = append(payload, 9)
		}
		b := r.frame(payload)
		if has(5) {
			b[len(b)-1] ^= 1
		}
		if has(0) {
			b = b[:41]
		}
		for e, want := range order {
			if has(e) {
				refuses(t, b, want)
				break
			}
		}
	}
}

// P6.3, P1: whatever the bytes are, Parse ends; if it answers a packet, its frame is these bytes.
func TestParseOfAnyBytes(t *testing.T) {
	c := New()
	noise := some(1 << 16)
	seen := map[api.Errno]int{}
	for round := range 20000 {
		at := round * 3
		n := int(noise[at])
		b := small.frame([]byte{7, 8})
		switch round % 4 {
		case 0:
			b = noise[at : at+n]
		case 1:
			b[int(noise[at+1])%len(b)] = noise[at+2]
		case 2:
			b[int(noise[at+1])%len(b)] = noise[at+2]
			b = sealed(b[:len(b)-4])
		case 3:
			b = sealed(append(b[:Head:Head], noise[at:at+n%6]...))
		}
		p, e := c.Parse(b)
		seen[e]++
		again, refused := c.Encode(p)
		if e == api.OK && (refused != api.OK || !bytes.Equal(again, b)) {
			t.Fatalf("Parse(%x): %+v, whose frame is %x", b, p, again)
		}
		if e != api.OK && (p.Header != (api.Header{}) || len(p.Payload) != 0) {
			t.Fatalf("Parse(%x): %+v beside %v", b, p, e)
		}
	}
	for _, e := range []api.Errno{api.OK, api.ErrShort, api.ErrMagic, api.ErrVersion, api.ErrParams, api.ErrLength, api.ErrSum} {
		if seen[e] == 0 {
			t.Errorf("no bytes were answered by %v", e)
		}
	}
}

// P2: what is handed in stays, and what is answered is new memory.
func TestMemory(t *testing.T) {
	c := New()
	h := headers()[0]
	h.B, h.Length = 4, 0
	room := some(20)
	b, _ := c.Encode(api.Packet{Header: h, Payload: room[:4]})
	other, _ := c.Encode(api.Packet{Header: h, Payload: room[:4]})
	want := bytes.Clone(b)
	if !bytes.Equal(room, some(20)) {
		t.Error("Encode changes what is handed in")
	}
	clear(room)
	clear(other[:cap(other)])
	if !bytes.Equal(b, want) {
		t.Error("a frame shares memory with a payload, or with another frame")
	}
	roomy := append(bytes.Clone(b), 1, 2, 3, 4)
	before := bytes.Clone(roomy)
	p, _ := c.Parse(roomy[:len(b)])
	q, _ := c.Parse(roomy[:len(b)])
	c.Parse(roomy)
	c.Parse(roomy[:30])
	if !bytes.Equal(roomy, before) {
		t.Error("Parse changes what is handed in")
	}
	clear(roomy)
	clear(q.Payload[:cap(q.Payload)])
	if !bytes.Equal(p.Payload, some(20)[:4]) {
		t.Error("a payload shares memory with a frame, or with another payload")
	}
}
