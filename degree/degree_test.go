package degree

import (
	"math"
	"math/big"
	"testing"

	"almonry/api"
)

// one: the share of all.
var one = big.NewRat(1, 1)

// of: Params of an F and an Eps; the others don't matter.
func of(f, eps int) api.Params { return api.Params{N: 1, B: 1, Q: 1, Eps: eps, F: f} }

// table: that of an F and an Eps that may be.
func table(t *testing.T, f, eps int) *Table {
	t.Helper()
	x, e := New(of(f, eps))
	if e != api.OK || x == nil {
		t.Fatalf("New of F %d, Eps %d: %v", f, eps, e)
	}
	return x
}

// each: an F and an Eps that may be, at all edges, and some between.
func each(do func(f, eps int)) {
	for _, f := range []int{2, 3, 4, 5, 7, 10, 100, 500, 999, 1000, 1001, 1002, 2048, 4095, 4096} {
		least := 1000/f + 1
		for _, eps := range []int{least, least + 1, 10, 100, 333, 500, 501, 998, 999, 1000} {
			if eps >= least && eps <= 1000 {
				do(f, eps)
			}
		}
	}
}

// shares: of each degree from 1 to F by itself, as P8.1 first tells of them, the first at 1.
func shares(f, eps int) []*big.Rat {
	e := big.NewRat(int64(eps), 1000)
	above := new(big.Rat).Add(one, big.NewRat(1, int64(f)))
	rest := new(big.Rat).Quo(above, new(big.Rat).Add(one, e))
	all := []*big.Rat{nil, new(big.Rat).Sub(one, rest)}
	for i := 2; i <= f; i++ {
		share := new(big.Rat).Mul(rest, big.NewRat(int64(f), int64(f-1)*int64(i)*int64(i-1)))
		all = append(all, share)
	}
	return all
}

// ofAll: a share of 2^64, rounded down.
func ofAll(share *big.Rat) uint64 {
	times := new(big.Int).Lsh(share.Num(), 64)
	return times.Quo(times, share.Denom()).Uint64()
}

// belows: Below of each degree from 1 to F - 1, the first at 1, and above all of them, at F, nothing.
func belows(t *testing.T, x *Table) []uint64 {
	t.Helper()
	all := []uint64{0}
	for i := 1; i < x.Most(); i++ {
		n, ok := x.Below(i)
		if !ok {
			t.Fatalf("Below(%d) of F %d: false", i, x.Most())
		}
		all = append(all, n)
	}
	return all
}

// P8.2
func TestKnownDegrees(t *testing.T) {
	cases := []struct {
		f, eps int
		want   []uint64
	}{
		{2, 1000, []uint64{1 << 62}},
		{3, 1000, []uint64{0x5555555555555555, 0xD555555555555555}},
		// 1 - (5/4) / (3/2) is a sixth; with it, of the other five 4/3 times a half, and 4/3 times two thirds.
		{4, 500, []uint64{0x2AAAAAAAAAAAAAAA, 0xB8E38E38E38E38E3, 0xE84BDA12F684BDA1}},
		// 2/3002.
		{2, 501, []uint64{0x002BA95BED948D37}},
	}
	for _, c := range cases {
		x := table(t, c.f, c.eps)
		if x.Most() != c.f {
			t.Errorf("Most of F %d: %d", c.f, x.Most())
		}
		for i, want := range c.want {
			if got, ok := x.Below(i + 1); got != want || !ok {
				t.Errorf("F %d, Eps %d: Below(%d): %#x, %v, want %#x", c.f, c.eps, i+1, got, ok, want)
			}
		}
	}
}

// P8.1, P8.2: Below is what all shares up to a degree, added one by one, are of 2^64; and all shares together are all.
func TestBelowIsTheSharesTogether(t *testing.T) {
	each(func(f, eps int) {
		x := table(t, f, eps)
		together := new(big.Rat)
		for i, share := range shares(f, eps) {
			if i == 0 {
				continue
			}
			if share.Sign() <= 0 {
				t.Fatalf("F %d, Eps %d: the share of %d is %v", f, eps, i, share)
			}
			together.Add(together, share)
			if i == f {
				break
			}
			if together.Cmp(one) >= 0 {
				t.Fatalf("F %d, Eps %d: the shares of 1 to %d are %v", f, eps, i, together)
			}
			if got, ok := x.Below(i); got != ofAll(together) || !ok {
				t.Fatalf("F %d, Eps %d: Below(%d): %#x, %v, want %#x", f, eps, i, got, ok, ofAll(together))
			}
		}
		if together.Cmp(one) != 0 {
			t.Fatalf("F %d, Eps %d: all shares are %v", f, eps, together)
		}
	})
}

// P8.1, P8.2: the least degree, the second and the last but one, of every F, and of each Eps of some.
func TestBelowOfAllParams(t *testing.T) {
	check := func(f, eps int) {
		x := table(t, f, eps)
		if x.Most() != f {
			t.Fatalf("Most of F %d: %d", f, x.Most())
		}
		for _, i := range []int{1, 2, f / 2, f - 1} {
			if i < 1 || i >= f {
				continue
			}
			n, m, k := int64(f), int64(eps), int64(i)
			share := big.NewRat((n*m-1000)*(n-1)*k+1000*(n+1)*n*(k-1), n*(1000+m)*(n-1)*k)
			if got, ok := x.Below(i); got != ofAll(share) || !ok {
				t.Fatalf("F %d, Eps %d: Below(%d): %#x, %v, want %#x", f, eps, i, got, ok, ofAll(share))
			}
		}
	}
	for f := 2; f <= 4096; f++ {
		for _, eps := range []int{1000/f + 1, 1000} {
			check(f, eps)
		}
	}
	for _, f := range []int{2, 3, 1001, 4096} {
		for eps := 1000/f + 1; eps <= 1000; eps++ {
			check(f, eps)
		}
	}
}

// P8.2: of the greatest degree, and of what is none, there is no Below.
func TestBelowOfOtherDegrees(t *testing.T) {
	each(func(f, eps int) {
		x := table(t, f, eps)
		for _, i := range []int{f, f + 1, 2 * f, 0, -1, -f, 4097, 1 << 32, 1<<32 + 1, math.MinInt, math.MinInt + 1, math.MaxInt} {
			if n, ok := x.Below(i); n != 0 || ok {
				t.Errorf("F %d: Below(%d): %d, %v", f, i, n, ok)
			}
		}
	})
}

// P8.2: at each Below a degree ends, and the next one begins.
func TestOfWhereDegreesMeet(t *testing.T) {
	each(func(f, eps int) {
		x := table(t, f, eps)
		all := belows(t, x)
		for i := 1; i < f; i++ {
			n := all[i]
			if n <= all[i-1] {
				t.Fatalf("F %d, Eps %d: Below(%d) is %#x, Below(%d) %#x", f, eps, i-1, all[i-1], i, n)
			}
			if x.Of(n-1) != i || x.Of(n) != i+1 || x.Of(all[i-1]) != i {
				t.Fatalf("F %d, Eps %d: Of(%#x) is %d, one ahead %d, where %d ends", f, eps, n, x.Of(n), x.Of(n-1), i)
			}
		}
		if x.Of(0) != 1 || x.Of(math.MaxUint64) != f {
			t.Errorf("F %d, Eps %d: Of the least is %d, Of the greatest %d", f, eps, x.Of(0), x.Of(math.MaxUint64))
		}
	})
}

// P8.2: Of is the first degree, gone through one by one, whose Below is above the number; the greatest, if none is.
func TestOfIsTheLeast(t *testing.T) {
	each(func(f, eps int) {
		x := table(t, f, eps)
		all := belows(t, x)
		u := uint64(f)<<32 + uint64(eps)
		for range 50 {
			u = u*6364136223846793005 + 1442695040888963407
			want := 1
			for want < f && all[want] <= u {
				want++
			}
			if got := x.Of(u); got != want {
				t.Fatalf("F %d, Eps %d: Of(%#x): %d, want %d", f, eps, u, got, want)
			}
		}
	})
}

// P8.2: the table hangs on F and Eps alone.
func TestOtherParamsMakeNoDifference(t *testing.T) {
	want := belows(t, table(t, 50, 100))
	for _, p := range []api.Params{{N: 1 << 20, B: 65535, Q: 8, Eps: 100, F: 50}, {N: 100, B: 8, Q: 3, Eps: 100, F: 50}} {
		x, e := New(p)
		if e != api.OK || x.Most() != 50 {
			t.Fatalf("New(%+v): %v", p, e)
		}
		for i, n := range belows(t, x) {
			if n != want[i] {
				t.Errorf("%+v: Below(%d): %#x, want %#x", p, i, n, want[i])
			}
		}
	}
}

// P8.2: Params that may not be have no table.
func TestNewOfWrongParams(t *testing.T) {
	wrong := []api.Params{
		{},
		{N: 0, B: 1, Q: 1, Eps: 1000, F: 2},
		{N: 1<<20 + 1, B: 1, Q: 1, Eps: 1000, F: 2},
		{N: 1, B: 0, Q: 1, Eps: 1000, F: 2},
		{N: 1, B: 65536, Q: 1, Eps: 1000, F: 2},
		{N: 1, B: 1, Q: 0, Eps: 1000, F: 2},
		{N: 1, B: 1, Q: 9, Eps: 1000, F: 2},
		of(2, 500), of(1000, 1), of(4, 250), of(4096, 0), of(4096, 1001), of(2, 1001),
		of(1, 1000), of(0, 1000), of(4097, 1000), of(-2, -1000),
		of(math.MaxInt, math.MaxInt), of(math.MinInt, math.MinInt), of(math.MinInt, 1000), of(2, math.MinInt), of(1<<32+2, 1000),
	}
	for _, p := range wrong {
		if x, e := New(p); x != nil || e != api.ErrParams {
			t.Errorf("New(%+v): %v, %v", p, x, e)
		}
	}
	for _, p := range []api.Params{of(2, 501), of(1001, 1), of(4, 251), of(4096, 1), of(4096, 1000), of(2, 1000)} {
		if x, e := New(p); x == nil || e != api.OK {
			t.Errorf("New(%+v): %v, %v", p, x, e)
		}
	}
}

// P1, P2: calls at all arguments end, and leave a table, and others, as they were.
func TestTablesKeepNothing(t *testing.T) {
	x, other := table(t, 200, 100), table(t, 200, 100)
	want := belows(t, x)
	for i := -300; i < 300; i++ {
		x.Below(i)
		x.Of(uint64(i))
		x.Of(uint64(i) << 55)
		x.Most()
		New(of(i, 7*i))
	}
	for _, y := range []*Table{x, other} {
		if y.Most() != 200 {
			t.Errorf("Most: %d after other calls", y.Most())
		}
		for i, n := range belows(t, y) {
			if n != want[i] {
				t.Errorf("Below(%d): %#x after other calls, and was %#x", i, n, want[i])
			}
		}
	}
}
