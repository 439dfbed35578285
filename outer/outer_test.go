package outer

import (
	"math"
	"slices"
	"testing"

	"almonry/api"
	"almonry/params"
	"almonry/rng"
)

// of: Params of an N, a Q and an Eps that may be; the others don't matter.
func of(n, q, eps int) api.Params { return api.Params{N: n, B: 1, Q: q, Eps: eps, F: 4096} }

// graph: that of Params that may be.
func graph(t *testing.T, p api.Params, session uint64) *Graph {
	t.Helper()
	g, e := New(p, session)
	if e != api.OK || g == nil {
		t.Fatalf("New(%+v, %d): %v", p, session, e)
	}
	return g
}

// drawn: the auxiliary blocks of a message block, drawn as P9.1 and P10.1 tell, each marked where it stands.
func drawn(auxiliary, q int, session uint64, message int) []int {
	r := rng.New(session, 1, uint64(message))
	marks := make([]bool, auxiliary)
	for j := auxiliary - q; j < auxiliary; j++ {
		if n := r.Below(j + 1); marks[n] {
			marks[j] = true
		} else {
			marks[n] = true
		}
	}
	var all []int
	for n, mark := range marks {
		if mark {
			all = append(all, n)
		}
	}
	return all
}

// each: an N, a Q, an Eps and a session, at edges and between.
func each(do func(p api.Params, session uint64)) {
	for _, n := range []int{1, 2, 3, 10, 30, 100, 300} {
		for _, q := range []int{1, 2, 3, 7, 8} {
			for _, eps := range []int{1, 10, 100, 500, 1000} {
				for _, session := range []uint64{0, 9, math.MaxUint64} {
					do(of(n, q, eps), session)
				}
			}
		}
	}
}

// P10.2: the example.
func TestTheOnlyBlocks(t *testing.T) {
	for session := range uint64(10) {
		g := graph(t, of(1, 1, 1000), session)
		if g.Message() != 1 || g.Auxiliary() != 1 {
			t.Errorf("%d message blocks, %d auxiliary ones", g.Message(), g.Auxiliary())
		}
		if !slices.Equal(g.Of(0), []int{0}) || !slices.Equal(g.Has(0), []int{0}) || !slices.Equal(g.Equation(0), []int{0, 1}) {
			t.Errorf("Of(0): %v, Has(0): %v, Equation(0): %v", g.Of(0), g.Has(0), g.Equation(0))
		}
	}
}

// P10.1, P10.2
func TestKnownGraphs(t *testing.T) {
	cases := []struct {
		p       api.Params
		session uint64
		of, has [][]int
	}{
		{
			of(10, 1, 1000), 1,
			[][]int{{5}, {4}, {2}, {2}, {3}, {1}, {2}, {2}, {4}, {2}},
			[][]int{{}, {5}, {2, 3, 6, 7, 9}, {4}, {1, 8}, {0}},
		},
		{
			of(8, 2, 500), math.MaxUint64,
			[][]int{{0, 4}, {0, 2}, {1, 4}, {1, 4}, {2, 4}, {1, 4}, {1, 2}, {1, 3}},
			[][]int{{0, 1}, {2, 3, 5, 6, 7}, {1, 4, 6}, {7}, {0, 2, 3, 4, 5}},
		},
		{
			of(2, 8, 1), 3,
			[][]int{{0, 1, 2, 3, 4, 5, 6, 7}, {0, 1, 2, 3, 4, 5, 6, 7}},
			[][]int{{0, 1}, {0, 1}, {0, 1}, {0, 1}, {0, 1}, {0, 1}, {0, 1}, {0, 1}},
		},
	}
	for _, c := range cases {
		g := graph(t, c.p, c.session)
		if g.Message() != len(c.of) || g.Auxiliary() != len(c.has) {
			t.Fatalf("%+v: %d message blocks, %d auxiliary ones", c.p, g.Message(), g.Auxiliary())
		}
		for i, want := range c.of {
			if got := g.Of(i); !slices.Equal(got, want) {
				t.Errorf("%+v: Of(%d): %v, want %v", c.p, i, got, want)
			}
		}
		for j, want := range c.has {
			if got := g.Has(j); !slices.Equal(got, want) {
				t.Errorf("%+v: Has(%d): %v, want %v", c.p, j, got, want)
			}
			if got := g.Equation(j); !slices.Equal(got, append(want, len(c.of)+j)) {
				t.Errorf("%+v: Equation(%d): %v", c.p, j, got)
			}
		}
	}
}

// P10.1, P10.2: each message block is in as many as Q, just those that are drawn; each auxiliary block has just those that are in it.
func TestGraphsAreAsTheyAreTold(t *testing.T) {
	lone := 0
	each(func(p api.Params, session uint64) {
		g := graph(t, p, session)
		auxiliary := params.Auxiliary(p)
		if g.Message() != p.N || g.Auxiliary() != auxiliary {
			t.Fatalf("%+v: %d message blocks, %d auxiliary ones", p, g.Message(), g.Auxiliary())
		}
		has := make([][]int, auxiliary)
		for i := range p.N {
			want := drawn(auxiliary, p.Q, session, i)
			if got := g.Of(i); !slices.Equal(got, want) || len(got) != p.Q {
				t.Fatalf("%+v, %d: Of(%d): %v, want %v", p, session, i, got, want)
			}
			for _, j := range want {
				has[j] = append(has[j], i)
			}
		}
		for j, want := range has {
			if got := g.Has(j); !slices.Equal(got, want) {
				t.Fatalf("%+v, %d: Has(%d): %v, want %v", p, session, j, got, want)
			}
			if got := g.Equation(j); !slices.Equal(got, append(want, p.N+j)) {
				t.Fatalf("%+v, %d: Equation(%d): %v", p, session, j, got)
			}
			if len(want) == 0 {
				lone++
			}
		}
	})
	if lone < 10 {
		t.Errorf("only %d auxiliary blocks that have no message blocks", lone)
	}
}

// P10.2: of numbers of no block there is none.
func TestNoSuchBlock(t *testing.T) {
	each(func(p api.Params, session uint64) {
		g := graph(t, p, session)
		for _, n := range []int{-1, -2, -p.N, math.MinInt, math.MinInt + 1, math.MaxInt, math.MaxInt - 1, 1 << 32, -1 << 32, 1 << 20} {
			if len(g.Of(n)) != 0 || len(g.Has(n)) != 0 || len(g.Equation(n)) != 0 {
				t.Errorf("%+v: Of(%d): %v, Has: %v, Equation: %v", p, n, g.Of(n), g.Has(n), g.Equation(n))
			}
		}
		for _, more := range []int{0, 1, 2, 100} {
			if got := g.Of(p.N + more); len(got) != 0 {
				t.Errorf("%+v: Of(%d): %v", p, p.N+more, got)
			}
			j := g.Auxiliary() + more
			if len(g.Has(j)) != 0 || len(g.Equation(j)) != 0 {
				t.Errorf("%+v: Has(%d): %v, Equation: %v", p, j, g.Has(j), g.Equation(j))
			}
		}
	})
}

// P10.1: the greatest graph, and the one of the most message blocks in the fewest auxiliary ones.
func TestTheGreatestGraphs(t *testing.T) {
	for _, p := range []api.Params{of(1<<20, 8, 1000), of(1<<20, 1, 1)} {
		g := graph(t, p, 5)
		if g.Message() != p.N || g.Auxiliary() != params.Auxiliary(p) {
			t.Fatalf("%+v: %d message blocks, %d auxiliary ones", p, g.Message(), g.Auxiliary())
		}
		all := 0
		for j := range g.Auxiliary() {
			l := g.Has(j)
			for k, i := range l {
				if k > 0 && i <= l[k-1] {
					t.Fatalf("%+v: Has(%d) doesn't rise", p, j)
				}
			}
			all += len(l)
		}
		if all != p.Q*p.N {
			t.Errorf("%+v: %d places", p, all)
		}
		for _, i := range []int{0, 1, p.N / 2, p.N - 1} {
			want := drawn(g.Auxiliary(), p.Q, 5, i)
			if got := g.Of(i); !slices.Equal(got, want) {
				t.Errorf("%+v: Of(%d): %v, want %v", p, i, got, want)
			}
			for _, j := range want {
				if !slices.Contains(g.Has(j), i) {
					t.Errorf("%+v: Has(%d) hasn't %d", p, j, i)
				}
			}
		}
	}
}

// P10.1: Params that may not be have no graph.
func TestNewOfWrongParams(t *testing.T) {
	wrong := []api.Params{
		{},
		{N: 0, B: 1, Q: 1, Eps: 1000, F: 2},
		{N: -1, B: 1, Q: 1, Eps: 1000, F: 2},
		{N: 1<<20 + 1, B: 1, Q: 1, Eps: 1000, F: 2},
		{N: math.MaxInt, B: 1, Q: 1, Eps: 1000, F: 2},
		{N: math.MinInt, B: 1, Q: 1, Eps: 1000, F: 2},
		{N: 1, B: 0, Q: 1, Eps: 1000, F: 2},
		{N: 1, B: 65536, Q: 1, Eps: 1000, F: 2},
		{N: 1, B: 1, Q: 0, Eps: 1000, F: 2},
		{N: 1, B: 1, Q: -1, Eps: 1000, F: 2},
		{N: 1, B: 1, Q: 9, Eps: 1000, F: 2},
		{N: 1, B: 1, Q: math.MaxInt, Eps: 1000, F: 2},
		{N: 1, B: 1, Q: 1, Eps: 0, F: 4096},
		{N: 1, B: 1, Q: 1, Eps: 1001, F: 2},
		{N: 1, B: 1, Q: 1, Eps: math.MaxInt, F: 2},
		{N: 1, B: 1, Q: 1, Eps: 1000, F: 1},
		{N: 1, B: 1, Q: 1, Eps: 1000, F: 4097},
		{N: 1, B: 1, Q: 1, Eps: 500, F: 2},
		{N: math.MaxInt, B: math.MaxInt, Q: math.MaxInt, Eps: math.MaxInt, F: math.MaxInt},
		{N: math.MinInt, B: math.MinInt, Q: math.MinInt, Eps: math.MinInt, F: math.MinInt},
	}
	for _, p := range wrong {
		for _, session := range []uint64{0, 1, math.MaxUint64} {
			if g, e := New(p, session); g != nil || e != api.ErrParams {
				t.Errorf("New(%+v, %d): %v, %v", p, session, g, e)
			}
		}
	}
	graph(t, api.Params{N: 1, B: 65535, Q: 8, Eps: 501, F: 2}, 1)
}

// lists: all that a graph answers of its blocks.
func lists(g *Graph) [][]int {
	var all [][]int
	for i := range g.Message() {
		all = append(all, g.Of(i))
	}
	for j := range g.Auxiliary() {
		all = append(all, g.Has(j), g.Equation(j))
	}
	return all
}

// alike: are two lists of lists the same?
func alike(one, other [][]int) bool { return slices.EqualFunc(one, other, slices.Equal) }

// P10.1: sessions differ; a B and an F make no difference.
func TestWhatGraphsHangOn(t *testing.T) {
	want := lists(graph(t, of(50, 3, 100), 7))
	for _, session := range []uint64{0, 1, 6, 8, 7 << 32, 7 + 1<<32, 7 + 1<<63, math.MaxUint64} {
		if alike(lists(graph(t, of(50, 3, 100), session)), want) {
			t.Errorf("the session %#x draws as 7 does", session)
		}
	}
	for _, p := range []api.Params{{N: 50, B: 65535, Q: 3, Eps: 100, F: 11}, {N: 50, B: 8, Q: 3, Eps: 100, F: 100}} {
		if !alike(lists(graph(t, p, 7)), want) {
			t.Errorf("%+v: another graph", p)
		}
	}
}

// P2: what is answered is new memory, and what is done with it makes no difference to the graph.
func TestAnswersAreNewMemory(t *testing.T) {
	g, other := graph(t, of(40, 3, 300), 7), graph(t, of(40, 3, 300), 7)
	want := lists(g)
	for _, l := range lists(g) {
		l = l[:cap(l)]
		for i := range l {
			l[i] = -1
		}
	}
	one, two := lists(g), lists(g)
	if !alike(one, want) || !alike(two, want) {
		t.Fatal("an answer that is changed changes the graph")
	}
	for i, l := range one {
		clear(l[:cap(l)])
		if !slices.Equal(two[i], want[i]) {
			t.Fatalf("two answers share memory: %v", two[i])
		}
		for k := i + 1; k < len(one); k++ {
			if !slices.Equal(one[k], want[k]) {
				t.Fatalf("two answers share memory: %v", one[k])
			}
		}
	}
	if !alike(lists(other), want) {
		t.Error("two graphs share memory")
	}
}

// P1, P2: calls at all arguments end, and leave a graph as it was.
func TestGraphsStayAsTheyAre(t *testing.T) {
	g := graph(t, of(40, 3, 300), 7)
	want := lists(g)
	for n := -100; n < 100; n++ {
		g.Of(n)
		g.Has(n)
		g.Equation(n)
		New(api.Params{N: n, B: n, Q: n, Eps: n, F: n}, uint64(n))
		New(of(40, 3, 300), uint64(n))
	}
	if g.Message() != 40 || g.Auxiliary() != 20 || !alike(lists(g), want) {
		t.Error("a graph is another one after other calls")
	}
}
