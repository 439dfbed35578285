package params

import (
	"math"
	"math/big"
	"testing"

	"almonry/api"
)

// plain: Params that may be, far from all edges.
var plain = api.Params{N: 100, B: 8, Q: 3, Eps: 100, F: 200}

// edges: of each number, from N to F, those within its limits that stand at them, and some between.
var edges = [5][]int{
	{1, 2, 3, 100, 1000, 1001, 12345, 1<<20 - 1, 1 << 20},
	{1, 2, 1500, 65534, 65535},
	{1, 2, 3, 7, 8},
	{1, 2, 100, 250, 251, 333, 334, 500, 501, 999, 1000},
	{2, 3, 4, 500, 501, 1000, 1001, 4095, 4096},
}

// wrong: of each number, from N to F, those beyond its limits.
var wrong = [5][]int{
	{0, -1, 1<<20 + 1, 1 << 21, -1 << 20, 1 << 32, 1<<32 + 1, math.MinInt, math.MaxInt},
	{0, -1, 65536, 65537, -65535, 1 << 32, 1<<32 + 1, math.MinInt, math.MaxInt},
	{0, -1, 9, 10, -8, 256, 257, 1<<32 + 1, math.MinInt, math.MaxInt},
	{0, -1, 1001, 1002, -1000, 65536 + 100, 1<<32 + 100, math.MinInt, math.MaxInt},
	{1, 0, -1, -2, 4097, 4098, -4096, 65536 + 200, 1<<32 + 200, math.MinInt, math.MaxInt},
}

// with: Params in which one number, counted from N to F, is another one.
func with(p api.Params, which, n int) api.Params {
	for i, field := range []*int{&p.N, &p.B, &p.Q, &p.Eps, &p.F} {
		if i == which {
			*field = n
		}
	}
	return p
}

// each: all Params of the numbers at the edges, those whose F times Eps is too small among them.
func each(do func(p api.Params)) {
	for _, n := range edges[0] {
		for _, b := range edges[1] {
			for _, q := range edges[2] {
				for _, eps := range edges[3] {
					for _, f := range edges[4] {
						do(api.Params{N: n, B: b, Q: q, Eps: eps, F: f})
					}
				}
			}
		}
	}
}

// product: of numbers, whatever their size.
func product(numbers ...int) *big.Int {
	all := big.NewInt(1)
	for _, n := range numbers {
		all.Mul(all, big.NewInt(int64(n)))
	}
	return all
}

// sum: of numbers, whatever their size.
func sum(numbers ...*big.Int) *big.Int {
	all := new(big.Int)
	for _, n := range numbers {
		all.Add(all, n)
	}
	return all
}

// is: is the number just that one?
func is(n int, want *big.Int) bool { return big.NewInt(int64(n)).Cmp(want) == 0 }

// P5.1
func TestLimits(t *testing.T) {
	if MaxN != 1048576 || MaxB != 65535 || MaxQ != 8 || MaxEps != 1000 || MaxF != 4096 {
		t.Error("the limits are others")
	}
}

// P5.1
func TestCheckWithinTheLimits(t *testing.T) {
	may, not := 0, 0
	each(func(p api.Params) {
		want := api.OK
		if product(p.F, p.Eps).Cmp(big.NewInt(1000)) <= 0 {
			want = api.ErrParams
			not++
		} else {
			may++
		}
		if got := Check(p); got != want {
			t.Errorf("Check(%+v): %v, want %v", p, got, want)
		}
	})
	if may == 0 || not == 0 {
		t.Errorf("%d that may be, %d that may not", may, not)
	}
}

// P5.1: F times Eps must be above 1000, not just as much.
func TestCheckOfFTimesEps(t *testing.T) {
	for f := 2; f <= MaxF; f++ {
		greatest := 1000 / f
		for _, eps := range []int{greatest, greatest + 1} {
			p := api.Params{N: 1, B: 1, Q: 1, Eps: eps, F: f}
			want := api.ErrParams
			if eps > greatest {
				want = api.OK
			}
			if got := Check(p); got != want {
				t.Errorf("Check of F %d, Eps %d: %v, want %v", f, eps, got, want)
			}
		}
	}
}

// P5.1: one wrong number is enough, whichever it is, and whatever the others are.
func TestCheckBeyondTheLimits(t *testing.T) {
	others := []api.Params{
		plain,
		{N: 1, B: 1, Q: 1, Eps: 1000, F: 2},
		{N: MaxN, B: MaxB, Q: MaxQ, Eps: MaxEps, F: MaxF},
	}
	for _, p := range others {
		if Check(p) != api.OK {
			t.Errorf("Check(%+v): %v", p, Check(p))
		}
		for which := range wrong {
			for _, n := range wrong[which] {
				if bad := with(p, which, n); Check(bad) != api.ErrParams {
					t.Errorf("Check(%+v): %v", bad, Check(bad))
				}
			}
		}
	}
	if Check(api.Params{}) != api.ErrParams {
		t.Error("Check of the zero Params")
	}
}

// P5.1: two wrong numbers don't make up for each other, even if their product is above 1000.
func TestCheckOfTwoWrongNumbers(t *testing.T) {
	for one := range wrong {
		for other := range one {
			for _, n := range wrong[one] {
				for _, m := range wrong[other] {
					if p := with(with(plain, one, n), other, m); Check(p) != api.ErrParams {
						t.Errorf("Check(%+v): %v", p, Check(p))
					}
				}
			}
		}
	}
}

// P5.2
func TestKnownCounts(t *testing.T) {
	cases := []struct {
		p                    api.Params
		auxiliary, all, most int
	}{
		{plain, 17, 117, 800},
		// 55 of 100000 of the product is less than Q.
		{api.Params{N: 1, B: 1, Q: 8, Eps: 10, F: 200}, 8, 9, 1},
		{api.Params{N: 1, B: 1, Q: 1, Eps: 1000, F: 2}, 1, 2, 1},
		// 2.97, and 3.003.
		{api.Params{N: 20, B: 7, Q: 3, Eps: 90, F: 20}, 3, 23, 140},
		{api.Params{N: 20, B: 7, Q: 3, Eps: 91, F: 20}, 4, 24, 140},
		// Just 1100, 1101.1, and 1098.9.
		{api.Params{N: 1000, B: 10, Q: 2, Eps: 1000, F: 2}, 1100, 2100, 10000},
		{api.Params{N: 1001, B: 10, Q: 2, Eps: 1000, F: 2}, 1102, 2103, 10010},
		{api.Params{N: 999, B: 10, Q: 2, Eps: 1000, F: 2}, 1099, 2098, 9990},
		// All at their greatest.
		{api.Params{N: MaxN, B: MaxB, Q: MaxQ, Eps: MaxEps, F: MaxF}, 4613735, 5662311, 68718428160},
	}
	for _, c := range cases {
		if Auxiliary(c.p) != c.auxiliary || All(c.p) != c.all || Most(c.p) != c.most {
			t.Errorf("%+v: %d, %d, %d, want %d, %d, %d", c.p, Auxiliary(c.p), All(c.p), Most(c.p), c.auxiliary, c.all, c.most)
		}
	}
}

// P5.2: Auxiliary reaches both of its bounds, and one less wouldn't.
func TestAuxiliaryIsTheLeast(t *testing.T) {
	reaches := func(p api.Params, n int) bool {
		return n >= p.Q && product(100000, n).Cmp(product(55, p.Q, p.Eps, p.N)) >= 0
	}
	each(func(p api.Params) {
		if Check(p) != api.OK {
			return
		}
		n := Auxiliary(p)
		if !reaches(p, n) || reaches(p, n-1) {
			t.Errorf("Auxiliary(%+v): %d", p, n)
		}
		if All(p) != p.N+n || !is(Most(p), product(p.N, p.B)) {
			t.Errorf("%+v: All %d, Most %d", p, All(p), Most(p))
		}
	})
}

// P5.3
func TestKnownBounds(t *testing.T) {
	greatest := api.Params{N: MaxN, B: MaxB, Q: MaxQ, Eps: MaxEps, F: MaxF}
	cases := []struct {
		p                         api.Params
		n                         int
		blocks, edges, work, more int
	}{
		{plain, 0, 135, 317, 317, 517},
		{plain, 1, 136, 517, 517, 717},
		{plain, 5, 140, 1317, 1317, 1517},
		{api.Params{N: 1, B: 1, Q: 1, Eps: 1000, F: 2}, 0, 4, 2, 2, 4},
		{greatest, 1 << 20, 11324623, 4307969639, 4307969639, 4307973735},
	}
	for _, c := range cases {
		if Blocks(c.p, c.n) != c.blocks || Edges(c.p, c.n) != c.edges || Work(c.p, c.n) != c.work || Work(c.p, c.n+1) != c.more {
			t.Errorf("%+v, %d: %d, %d, %d, %d", c.p, c.n, Blocks(c.p, c.n), Edges(c.p, c.n), Work(c.p, c.n), Work(c.p, c.n+1))
		}
	}
}

// P5.3
func TestBoundsAtTheEdges(t *testing.T) {
	each(func(p api.Params) {
		if Check(p) != api.OK {
			return
		}
		a := product(Auxiliary(p))
		for _, n := range []int{0, 1, 2, 1000, 1<<20 - 1, 1 << 20} {
			if !is(Blocks(p, n), sum(product(p.N), a, a, product(n), product(1))) {
				t.Errorf("Blocks(%+v, %d): %d", p, n, Blocks(p, n))
			}
			want := sum(product(p.Q, p.N), a, product(n, p.F))
			if !is(Edges(p, n), want) || !is(Work(p, n), want) {
				t.Errorf("%+v, %d: Edges %d, Work %d", p, n, Edges(p, n), Work(p, n))
			}
		}
	})
}

// P1: each call ends at all arguments, and doesn't panic. P2: it answers the same whenever it is asked.
func TestAllArguments(t *testing.T) {
	raw := []int{math.MinInt, math.MinInt + 1, -100000, -1, 0, 1, 2, 1000, 1 << 20, 1 << 32, math.MaxInt - 1, math.MaxInt}
	answers := func(p api.Params, n int) [7]int {
		return [7]int{int(Check(p)), Auxiliary(p), All(p), Most(p), Blocks(p, n), Edges(p, n), Work(p, n)}
	}
	for which := range 5 {
		for other := range 5 {
			for _, n := range raw {
				for _, m := range raw {
					p := with(with(plain, which, n), other, m)
					if first := answers(p, m); first != answers(p, m) {
						t.Errorf("%+v, %d: answers differ", p, m)
					}
				}
			}
		}
	}
	for _, n := range raw {
		for _, m := range raw {
			answers(api.Params{N: n, B: n, Q: n, Eps: n, F: n}, m)
		}
	}
}
