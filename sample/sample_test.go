package sample

import (
	"math"
	"slices"
	"testing"

	"almonry/rng"
)

// told: what P9.1 says is drawn by some seeds, each number marked where it stands; how many draws found a number that was taken; and the Rand behind all draws.
func told(below, many int, seeds ...uint64) (some []int, twice int, r *rng.Rand) {
	r = rng.New(seeds...)
	if below < 1 || many < 1 {
		return nil, 0, r
	}
	if many > below {
		many = below
	}
	marks := make([]bool, below)
	for j := below - many; j <= below-1; j++ {
		n := r.Below(j + 1)
		if marks[n] {
			twice++
			n = j
		}
		marks[n] = true
	}
	for n, mark := range marks {
		if mark {
			some = append(some, n)
		}
	}
	return some, twice, r
}

// rises: do numbers rise from 0 on, below another one?
func rises(l []int, below int) bool {
	last := -1
	for _, n := range l {
		if n <= last || n >= below {
			return false
		}
		last = n
	}
	return true
}

// P9.1: what is drawn, and what is drawn by the same Rand behind that.
func TestKnownSamples(t *testing.T) {
	cases := []struct {
		seeds       []uint64
		below, many int
		want        []int
		next        uint64
	}{
		{nil, 10, 3, []int{0, 7, 9}, 0xF88BB8A8724C81EC},
		{[]uint64{1}, 10, 3, []int{4, 7, 8}, 0xED4D5ED4A6EA59B4},
		{[]uint64{5, 2, 9}, 100, 8, []int{14, 48, 59, 62, 67, 89, 92, 97}, 0x59DB355696042980},
		{[]uint64{0}, 2, 1, []int{1}, 0xB382A305F4414F5E},
		{[]uint64{7}, 1 << 24, 6, []int{1391481, 6719141, 9392025, 10704040, 10917214, 13205612}, 0x903596B1D0AC3067},
		{[]uint64{3}, 20, 19, []int{0, 2, 3, 4, 5, 6, 7, 8, 9, 10, 11, 12, 13, 14, 15, 16, 17, 18, 19}, 0x1659B9433BFEBF8A},
		{[]uint64{math.MaxUint64}, 577, 5, []int{139, 259, 352, 381, 544}, 0x913076E4644225C7},
	}
	for _, c := range cases {
		r := rng.New(c.seeds...)
		if got := Some(r, c.below, c.many); !slices.Equal(got, c.want) {
			t.Errorf("%d of %d by %x: %v, want %v", c.many, c.below, c.seeds, got, c.want)
		}
		if got := r.Next(); got != c.next {
			t.Errorf("%d of %d by %x: behind it %#x is drawn, want %#x", c.many, c.below, c.seeds, got, c.next)
		}
	}
}

// P9.1: of each below and each many, as many as there are and more, and as often drawn.
func TestSomeIsAsItIsTold(t *testing.T) {
	belows := []int{-3, -1, 0, 1, 2, 3, 4, 5, 7, 8, 9, 16, 17, 40, 64, 100, 577}
	all := 0
	for _, below := range belows {
		for many := -2; many <= below+2; many++ {
			for seed := range uint64(5) {
				r := rng.New(seed, uint64(below))
				got := Some(r, below, many)
				want, twice, behind := told(below, many, seed, uint64(below))
				if !slices.Equal(got, want) || *r != *behind {
					t.Fatalf("%d of %d by %d: %v, want %v", many, below, seed, got, want)
				}
				if !rises(got, below) || len(got) != max(0, min(many, below)) {
					t.Fatalf("%d of %d by %d: %v", many, below, seed, got)
				}
				all += twice
			}
		}
	}
	if all < 1000 {
		t.Errorf("only %d times a number was drawn that was taken", all)
	}
}

// P9.1: one Rand draws one sample behind another one.
func TestSamplesBehindEachOther(t *testing.T) {
	r, other := rng.New(11), rng.New(11)
	var got, want [][]int
	for range 50 {
		got = append(got, Some(r, 30, 4))
	}
	for range 50 {
		marks := map[int]bool{}
		var some []int
		for j := 26; j < 30; j++ {
			n := other.Below(j + 1)
			if marks[n] {
				n = j
			}
			marks[n] = true
			some = append(some, n)
		}
		slices.Sort(some)
		want = append(want, some)
	}
	if !slices.EqualFunc(got, want, slices.Equal) || *r != *other {
		t.Errorf("%v, want %v", got, want)
	}
}

// P9.1: all numbers, if there aren't more of them; each was drawn, all the same.
func TestSomeOfNoMore(t *testing.T) {
	for _, below := range []int{1, 2, 3, 10, 1000} {
		var want []int
		behind := rng.New(4)
		for n := range below {
			want = append(want, n)
			behind.Below(n + 1)
		}
		for _, many := range []int{below, below + 1, 2 * below, 1<<24 + 1, 1 << 40, math.MaxInt - 1, math.MaxInt} {
			r := rng.New(4)
			if got := Some(r, below, many); !slices.Equal(got, want) {
				t.Errorf("%d of %d: %v", many, below, got)
			}
			if *r != *behind {
				t.Errorf("%d of %d: not each was drawn", many, below)
			}
		}
	}
}

// P9.1: none of nothing, and nothing is drawn.
func TestSomeOfNone(t *testing.T) {
	r := rng.New(4)
	wrong := []int{0, -1, -2, -1 << 24, -1 << 32, math.MinInt + 1, math.MinInt}
	for _, n := range wrong {
		for _, other := range append(wrong, 1, 2, 3, 1<<24, math.MaxInt) {
			if got := Some(r, n, other); len(got) != 0 {
				t.Errorf("%d of %d: %v", other, n, got)
			}
			if got := Some(r, other, n); len(got) != 0 {
				t.Errorf("%d of %d: %v", n, other, got)
			}
		}
	}
	if *r != *rng.New(4) {
		t.Error("of none, something is drawn")
	}
}

// P9.1: at the greatest below, few and all of them.
func TestSomeOfTheMost(t *testing.T) {
	const below = 1 << 24
	for _, many := range []int{1, 2, 8, 4096} {
		want, _, behind := told(below, many, 6)
		r := rng.New(6)
		if got := Some(r, below, many); !slices.Equal(got, want) || *r != *behind {
			t.Errorf("%d of %d: not as it is told", many, below)
		}
	}
	if testing.Short() {
		return
	}
	got := Some(rng.New(6), below, math.MaxInt)
	if len(got) != below || !rises(got, below) {
		t.Errorf("all of %d: %d", below, len(got))
	}
}

// P9.1: each choice of numbers is as likely.
func TestSomeIsFair(t *testing.T) {
	seen := map[[3]int]int{}
	r := rng.New(8)
	for range 20000 {
		l := Some(r, 6, 3)
		seen[[3]int(l)]++
	}
	if len(seen) != 20 {
		t.Errorf("%d choices of 3 of 6", len(seen))
	}
	for l, times := range seen {
		if times < 850 || times > 1150 {
			t.Errorf("%v: %d of 20000", l, times)
		}
	}
}

// P1: of numbers of which nothing is promised, calls end, and take no memory that there isn't.
func TestSomeOfTooMany(t *testing.T) {
	for _, below := range []int{1<<24 + 1, 1 << 25, 1 << 32, 1<<32 + 3, 1 << 62, math.MaxInt - 1, math.MaxInt} {
		for _, many := range []int{math.MinInt, -1, 0, 1, 3, 1 << 24, 1<<24 + 1, 1 << 32, math.MaxInt - 1, math.MaxInt} {
			Some(rng.New(1), below, many)
		}
	}
	Some(nil, 3, 2)
	Some(nil, 3, 0)
	Some(nil, math.MaxInt, math.MaxInt)
}

// P2: an answer shares nothing with what is answered next, nor with what is kept.
func TestSomeIsNewMemory(t *testing.T) {
	want := Some(rng.New(2), 50, 10)
	r := rng.New(2)
	first := Some(r, 50, 10)
	second := Some(r, 50, 10)
	kept := slices.Clone(second)
	clear(first[:cap(first)])
	if !slices.Equal(second, kept) {
		t.Error("two answers share memory")
	}
	if got := Some(rng.New(2), 50, 10); !slices.Equal(got, want) {
		t.Errorf("%v after an answer was changed, want %v", got, want)
	}
}

// P9.2
func TestHas(t *testing.T) {
	lists := [][]int{
		nil, {}, {0}, {1}, {-1}, {2, 5, 9}, {0, 1, 2, 3}, {-4, -2, 0, 2}, {1, 3},
		{math.MinInt, 0, math.MaxInt}, {math.MinInt}, {math.MaxInt}, {math.MinInt, math.MinInt + 1}, {-1 << 32, 1 << 32, 1<<32 + 5},
	}
	lists = append(lists, Some(rng.New(1), 1000, 100), Some(rng.New(1), 1000, 101), Some(rng.New(1), 64, 64))
	for _, l := range lists {
		asked := []int{math.MinInt, math.MinInt + 1, math.MaxInt, math.MaxInt - 1, -1 << 32, 1 << 32, 1<<32 + 5}
		for n := -10; n < 1010; n++ {
			asked = append(asked, n)
		}
		for _, n := range asked {
			want := false
			for _, one := range l {
				want = want || one == n
			}
			if got := Has(l, n); got != want {
				t.Fatalf("Has(%v, %d): %v", l, n, got)
			}
		}
	}
}

// P1, P2: whatever is handed in, calls end, and leave it as it is, with its spare room.
func TestHasLeavesLists(t *testing.T) {
	for _, room := range [][]int{{2, 5, 9, 4, 7}, {9, 5, 2, 1, 0}, {3, 3, 3, 3, 3}, {math.MaxInt, math.MinInt, 0, math.MaxInt, math.MinInt}} {
		was := slices.Clone(room)
		for many := range room {
			for _, n := range append(slices.Clone(was), -1, 1, 6, 8, 10) {
				Has(room[:many], n)
			}
		}
		if !slices.Equal(room, was) {
			t.Errorf("%v became %v", was, room)
		}
	}
	if l := []int{2, 5, 9}[:2]; Has(l, 9) {
		t.Error("Has looks behind the list")
	}
}
