package inner

import (
	"math"
	"math/big"
	"slices"
	"testing"

	"almonry/api"
	"almonry/degree"
	"almonry/params"
	"almonry/rng"
)

// source: that of Params that may be.
func source(t *testing.T, p api.Params, session uint64) *Source {
	t.Helper()
	s, e := New(p, session)
	if e != api.OK || s == nil {
		t.Fatalf("New(%+v, %d): %v", p, session, e)
	}
	return s
}

// belows: below which number each degree but the greatest is drawn, one share upon the other, as P8.1 tells.
func belows(p api.Params) []uint64 {
	whole := new(big.Rat).SetInt(new(big.Int).Lsh(big.NewInt(1), 64))
	one := new(big.Rat).Quo(big.NewRat(int64(p.F+1), int64(p.F)), big.NewRat(int64(1000+p.Eps), 1000))
	rest := new(big.Rat).Mul(one, big.NewRat(int64(p.F), int64(p.F-1)))
	sum := new(big.Rat).Sub(big.NewRat(1, 1), one)
	var all []uint64
	for i := 1; i < p.F; i++ {
		if i > 1 {
			sum.Add(sum, new(big.Rat).Quo(rest, big.NewRat(int64(i*(i-1)), 1)))
		}
		of := new(big.Rat).Mul(sum, whole)
		all = append(all, new(big.Int).Quo(of.Num(), of.Denom()).Uint64())
	}
	return all
}

// drawn: the blocks of a check block, drawn as P9.1 and P11.2 tell, each marked where it stands.
func drawn(p api.Params, belows []uint64, session, id uint64) []int {
	r := rng.New(session, 2, id)
	u, many := r.Next(), 1
	for many < p.F && belows[many-1] <= u {
		many++
	}
	all := params.All(p)
	marks := make(map[int]bool)
	for j := all - min(many, all); j < all; j++ {
		if n := r.Below(j + 1); marks[n] {
			marks[j] = true
		} else {
			marks[n] = true
		}
	}
	var some []int
	for n := range marks {
		some = append(some, n)
	}
	slices.Sort(some)
	return some
}

// ids: of check blocks, at edges and between.
func ids() []uint64 {
	all := []uint64{1<<32 - 1, 1 << 32, 1<<63 - 1, 1 << 63, math.MaxUint64 - 1, math.MaxUint64}
	for id := range uint64(150) {
		all = append(all, id)
	}
	return all
}

// P11.2: draws that were reckoned apart from the program.
func TestKnownCheckBlocks(t *testing.T) {
	cases := []struct {
		p           api.Params
		session, id uint64
		want        []int
	}{
		{api.Params{N: 3, B: 2, Q: 1, Eps: 1000, F: 2}, 5, 0, []int{0, 2}},
		{api.Params{N: 3, B: 2, Q: 1, Eps: 1000, F: 2}, 5, 2, []int{3, 4}},
		{api.Params{N: 3, B: 2, Q: 1, Eps: 1000, F: 2}, 5, math.MaxUint64, []int{2, 3}},
		{api.Params{N: 30, B: 4, Q: 3, Eps: 200, F: 10}, 9, 0, []int{11, 27}},
		{api.Params{N: 30, B: 4, Q: 3, Eps: 200, F: 10}, 9, 1, []int{0, 4, 12, 14, 17, 20, 22, 26}},
		{api.Params{N: 30, B: 4, Q: 3, Eps: 200, F: 10}, 9, 3, []int{4, 12, 39}},
		{api.Params{N: 30, B: 4, Q: 3, Eps: 200, F: 10}, 9, 4, []int{30}},
		{api.Params{N: 30, B: 4, Q: 3, Eps: 200, F: 10}, 9, 1 << 32, []int{14, 37}},
		{api.Params{N: 30, B: 4, Q: 3, Eps: 200, F: 10}, 9, math.MaxUint64, []int{8, 32, 38}},
		{api.Params{N: 1, B: 1, Q: 1, Eps: 10, F: 101}, 9, 0, []int{0, 1}},
		{api.Params{N: 1 << 20, B: 65535, Q: 8, Eps: 1000, F: 4096}, math.MaxUint64, 2, []int{4783457}},
		{api.Params{N: 1 << 20, B: 65535, Q: 8, Eps: 1000, F: 4096}, math.MaxUint64, 1 << 63, []int{1068473, 1671018, 2416455, 3130580, 3185171, 3875928, 4209209, 4966478}},
		{api.Params{N: 1 << 20, B: 1, Q: 8, Eps: 1, F: 4096}, 0, 5, []int{72941, 103767, 147965, 257318, 366895, 504084, 670840, 782222, 857846, 883904, 939969}},
	}
	for _, c := range cases {
		if got := source(t, c.p, c.session).Blocks(c.id); !slices.Equal(got, c.want) {
			t.Errorf("%+v, %d: Blocks(%d): %v, want %v", c.p, c.session, c.id, got, c.want)
		}
	}
}

// P11.2: the example; one block is a quarter of all.
func TestOneBlockOrTwo(t *testing.T) {
	s := source(t, api.Params{N: 100, B: 1, Q: 3, Eps: 1000, F: 2}, 1)
	var many [3]int
	for id := range uint64(4000) {
		l := s.Blocks(id)
		if len(l) != 1 && len(l) != 2 {
			t.Fatalf("Blocks(%d): %v", id, l)
		}
		many[len(l)]++
	}
	if many[1] < 900 || many[1] > 1100 {
		t.Errorf("%d of 4000 of one block, %d of two", many[1], many[2])
	}
}

// P11.2: just those that are drawn, at edges and between.
func TestCheckBlocksAreAsTheyAreTold(t *testing.T) {
	for _, n := range []int{1, 2, 3, 10, 100, 5000} {
		for _, q := range []int{1, 3, 8} {
			for _, of := range []struct{ eps, f int }{{1, 1001}, {1, 4096}, {10, 101}, {100, 40}, {501, 2}, {1000, 2}, {1000, 4096}} {
				p := api.Params{N: n, B: 1, Q: q, Eps: of.eps, F: of.f}
				below := belows(p)
				for _, session := range []uint64{0, 9, math.MaxUint64} {
					s := source(t, p, session)
					for _, id := range ids() {
						want := drawn(p, below, session, id)
						if got := s.Blocks(id); !slices.Equal(got, want) {
							t.Fatalf("%+v, %d: Blocks(%d): %v, want %v", p, session, id, got, want)
						}
					}
				}
			}
		}
	}
}

// P11.2: a check block of more blocks than there are is one of all; one of the greatest degree is made of F.
func TestTheGreatestCheckBlocks(t *testing.T) {
	p := api.Params{N: 2, B: 1, Q: 8, Eps: 1, F: 4096}
	table, _ := degree.New(p)
	s := source(t, p, 3)
	all, more := []int{0, 1, 2, 3, 4, 5, 6, 7, 8, 9}, 0
	for id := range uint64(2000) {
		if table.Of(rng.New(3, 2, id).Next()) <= len(all) {
			continue
		}
		more++
		if got := s.Blocks(id); !slices.Equal(got, all) {
			t.Fatalf("Blocks(%d): %v", id, got)
		}
	}
	if more < 10 {
		t.Errorf("only %d check blocks of more blocks than there are", more)
	}
	p = api.Params{N: 1 << 20, B: 1, Q: 1, Eps: 1000, F: 4096}
	s, below := source(t, p, 4), belows(p)
	id := uint64(0)
	for s.Of(rng.New(4, 2, id).Next()) < 4000 {
		id++
	}
	want := drawn(p, below, 4, id)
	if got := s.Blocks(id); len(got) < 4000 || !slices.Equal(got, want) {
		t.Errorf("Blocks(%d): %d blocks, want %d", id, len(got), len(want))
	}
}

// A source has the calls of its table of degrees.
func TestSourcesHaveTheirTablesCalls(t *testing.T) {
	for _, p := range []api.Params{{N: 3, B: 2, Q: 1, Eps: 1000, F: 2}, {N: 30, B: 4, Q: 3, Eps: 200, F: 10}, {N: 1, B: 1, Q: 1, Eps: 1, F: 4096}} {
		table, _ := degree.New(p)
		s := source(t, p, 9)
		if s.Most() != p.F {
			t.Errorf("%+v: Most(): %d", p, s.Most())
		}
		for i := -1; i <= p.F+1; i++ {
			got, ok := s.Below(i)
			if want, has := table.Below(i); got != want || ok != has {
				t.Fatalf("%+v: Below(%d): %d, %v", p, i, got, ok)
			}
		}
		for _, u := range ids() {
			if s.Of(rng.Mix(u)) != table.Of(rng.Mix(u)) {
				t.Fatalf("%+v: Of(%d): %d", p, rng.Mix(u), s.Of(rng.Mix(u)))
			}
		}
	}
}

// P11.1: Params that may not be have no source.
func TestNewOfWrongParams(t *testing.T) {
	wrong := []api.Params{
		{},
		{N: 0, B: 1, Q: 1, Eps: 1000, F: 2},
		{N: -1, B: 1, Q: 1, Eps: 1000, F: 2},
		{N: 1<<20 + 1, B: 1, Q: 1, Eps: 1000, F: 2},
		{N: math.MaxInt, B: 1, Q: 1, Eps: 1000, F: 2},
		{N: math.MinInt, B: 1, Q: 1, Eps: 1000, F: 2},
		{N: 1, B: 0, Q: 1, Eps: 1000, F: 2},
		{N: 1, B: 65536, Q: 1, Eps: 1000, F: 2},
		{N: 1, B: 1, Q: 0, Eps: 1000, F: 2},
		{N: 1, B: 1, Q: 9, Eps: 1000, F: 2},
		{N: 1, B: 1, Q: math.MaxInt, Eps: 1000, F: 2},
		{N: 1, B: 1, Q: 1, Eps: 0, F: 4096},
		{N: 1, B: 1, Q: 1, Eps: 1001, F: 2},
		{N: 1, B: 1, Q: 1, Eps: 1000, F: 1},
		{N: 1, B: 1, Q: 1, Eps: 1000, F: 4097},
		{N: 1, B: 1, Q: 1, Eps: 500, F: 2},
		{N: 1, B: 1, Q: 1, Eps: 1, F: 1000},
		{N: math.MaxInt, B: math.MaxInt, Q: math.MaxInt, Eps: math.MaxInt, F: math.MaxInt},
		{N: math.MinInt, B: math.MinInt, Q: math.MinInt, Eps: math.MinInt, F: math.MinInt},
	}
	for _, p := range wrong {
		for _, session := range []uint64{0, 1, math.MaxUint64} {
			if s, e := New(p, session); s != nil || e != api.ErrParams {
				t.Errorf("New(%+v, %d): %v, %v", p, session, s, e)
			}
		}
	}
	source(t, api.Params{N: 1, B: 65535, Q: 8, Eps: 501, F: 2}, 1)
	source(t, api.Params{N: 1 << 20, B: 65535, Q: 8, Eps: 1000, F: 4096}, 1)
}

// lists: the blocks of the first check blocks.
func lists(s *Source) [][]int {
	var all [][]int
	for id := range uint64(60) {
		all = append(all, s.Blocks(id))
	}
	return all
}

// alike: are two lists of lists the same?
func alike(one, other [][]int) bool { return slices.EqualFunc(one, other, slices.Equal) }

// P11.2: sessions differ, and IDs; a B makes no difference.
func TestWhatCheckBlocksHangOn(t *testing.T) {
	p := api.Params{N: 50, B: 1, Q: 3, Eps: 100, F: 30}
	want := lists(source(t, p, 7))
	for _, session := range []uint64{0, 1, 6, 8, 7 << 32, 7 + 1<<32, 7 + 1<<63, math.MaxUint64} {
		if alike(lists(source(t, p, session)), want) {
			t.Errorf("the session %#x draws as 7 does", session)
		}
	}
	p.B = 65535
	s := source(t, p, 7)
	if !alike(lists(s), want) {
		t.Error("another B, other blocks")
	}
	for _, high := range []uint64{1 << 8, 1 << 32, 1 << 63} {
		same := 0
		for id := range uint64(60) {
			if slices.Equal(s.Blocks(id+high), want[id]) {
				same++
			}
		}
		if same > 10 {
			t.Errorf("%d of 60 check blocks are alike with %#x more", same, high)
		}
	}
}

// P2: what is answered is new memory, and what is done with it makes no difference to the source.
func TestAnswersAreNewMemory(t *testing.T) {
	p := api.Params{N: 50, B: 1, Q: 3, Eps: 100, F: 30}
	s, other := source(t, p, 7), source(t, p, 7)
	want := lists(s)
	one, two := lists(s), lists(s)
	for i, l := range one {
		l = l[:cap(l)]
		for k := range l {
			l[k] = -1
		}
		if !alike(two, want) || !alike(one[i+1:], want[i+1:]) {
			t.Fatal("two answers share memory")
		}
	}
	if !alike(lists(s), want) || !alike(lists(other), want) {
		t.Error("an answer that is changed changes a source")
	}
}

// P1, P2: calls at all arguments end, in whatever order, and leave a source as it was.
func TestSourcesStayAsTheyAre(t *testing.T) {
	p := api.Params{N: 50, B: 1, Q: 3, Eps: 100, F: 30}
	s := source(t, p, 7)
	want := lists(s)
	for n := 100; n > -100; n-- {
		s.Blocks(uint64(n))
		s.Blocks(rng.Mix(uint64(n)))
		s.Of(uint64(n))
		s.Below(n)
		New(api.Params{N: n, B: n, Q: n, Eps: n, F: n}, uint64(n))
		New(p, uint64(n))
	}
	if !alike(lists(s), want) {
		t.Error("a source is another one after other calls")
	}
	for id := len(want) - 1; id >= 0; id-- {
		if got := s.Blocks(uint64(id)); !slices.Equal(got, want[id]) {
			t.Errorf("Blocks(%d), asked in another order: %v, want %v", id, got, want[id])
		}
	}
}
