package rng

import (
	"math"
	"math/big"
	"slices"
	"testing"
)

// edges: numbers of 64 bits at which shifts, products and sums go round, or don't yet.
var edges = []uint64{
	0, 1, 2, 3, 0xFF, 1<<26 - 1, 1 << 27, 1 << 30, 1<<30 - 1, 1 << 31, 1 << 32, 1<<33 + 1,
	1 << 62, 1<<63 - 1, 1 << 63, 1<<63 + 1, math.MaxUint64 - 1, math.MaxUint64,
	0x9E3779B97F4A7C15, 0x61C8864680B583EB, 0xBF58476D1CE4E5B9, 0x94D049BB133111EB, 0xAAAAAAAAAAAAAAAA, 0x5555555555555555,
}

// third: the least number of which three are above 2^64; so two of it fit, and as many numbers as possible, nearly every third one, are below the remainder of 2^64.
const third = 6148914691236517206

// model is a Rand as P7.1 to P7.3 tell of it, in whole numbers that don't go round by themselves.
type model struct {
	state *big.Int
	drawn int
}

// whole: a number of 64 bits.
func whole(n uint64) *big.Int { return new(big.Int).SetUint64(n) }

// round: what is left of a number in 64 bits.
func round(n *big.Int) *big.Int {
	return new(big.Int).Mod(n, new(big.Int).Lsh(big.NewInt(1), 64))
}

// mixed: P7.1.
func mixed(z *big.Int) *big.Int {
	shift := []uint{30, 27, 31}
	times := []uint64{0xBF58476D1CE4E5B9, 0x94D049BB133111EB, 1}
	for i := range 3 {
		down := new(big.Int).Rsh(z, shift[i])
		z = round(new(big.Int).Mul(new(big.Int).Xor(z, down), whole(times[i])))
	}
	return z
}

// seeded: P7.2.
func seeded(seeds ...uint64) *model {
	m := &model{state: new(big.Int)}
	for _, seed := range seeds {
		sum := round(new(big.Int).Add(m.state, whole(0x9E3779B97F4A7C15)))
		m.state = mixed(new(big.Int).Xor(sum, whole(seed)))
	}
	return m
}

// next: P7.2.
func (m *model) next() *big.Int {
	m.drawn++
	m.state = round(new(big.Int).Add(m.state, whole(0x9E3779B97F4A7C15)))
	return mixed(m.state)
}

// below: P7.3.
func (m *model) below(n int) int {
	if n < 1 {
		return 0
	}
	by := big.NewInt(int64(n))
	least := new(big.Int).Mod(new(big.Int).Lsh(big.NewInt(1), 64), by)
	var last *big.Int
	for range 16 {
		last = m.next()
		if last.Cmp(least) >= 0 {
			break
		}
	}
	return int(new(big.Int).Mod(last, by).Int64())
}

// draws: so many numbers.
func draws(r *Rand, n int) []uint64 {
	var all []uint64
	for range n {
		all = append(all, r.Next())
	}
	return all
}

// P7.1
func TestKnownMixes(t *testing.T) {
	cases := []struct{ z, want uint64 }{
		{0, 0},
		{0x9E3779B97F4A7C15, 0xE220A8397B1DCDAF},
		{0x3C6EF372FE94F82A, 0x6E789E6AA1B965F4},
		{0xDAA66D2C7DDF743F, 0x06C45D188009454F},
	}
	for _, c := range cases {
		if got := Mix(c.z); got != c.want {
			t.Errorf("Mix(%#x): %#x, want %#x", c.z, got, c.want)
		}
	}
}

// P7.1
func TestMixIsAsItIsTold(t *testing.T) {
	var all []uint64
	for _, one := range edges {
		for _, other := range edges {
			all = append(all, one, one+other, one^other)
		}
	}
	for bit := range 64 {
		all = append(all, 1<<bit, 1<<bit-1, ^(uint64(1) << bit))
	}
	for _, z := range all {
		if got, want := Mix(z), mixed(whole(z)).Uint64(); got != want {
			t.Fatalf("Mix(%#x): %#x, want %#x", z, got, want)
		}
	}
}

// P7.2
func TestKnownDraws(t *testing.T) {
	want := []uint64{0xE220A8397B1DCDAF, 0x6E789E6AA1B965F4, 0x06C45D188009454F, 0xF88BB8A8724C81EC, 0x1B39896A51A8749B}
	for _, r := range []*Rand{New(), New(nil...), New([]uint64{}...)} {
		if got := draws(r, len(want)); !slices.Equal(got, want) {
			t.Errorf("Next of New without seeds: %x, want %x", got, want)
		}
	}
}

// P7.2: whatever the seeds are, and however many.
func TestDrawsAreAsTheyAreTold(t *testing.T) {
	lists := [][]uint64{nil, {0, 0}, {0, 0, 0}, edges}
	for i, one := range edges {
		lists = append(lists, []uint64{one}, edges[:i])
		for _, other := range edges {
			lists = append(lists, []uint64{one, other}, []uint64{other, 2, one})
		}
	}
	for _, seeds := range lists {
		r, m := New(seeds...), seeded(seeds...)
		for i := range 20 {
			if got, want := r.Next(), m.next().Uint64(); got != want {
				t.Fatalf("New(%x): number %d is %#x, want %#x", seeds, i, got, want)
			}
		}
	}
}

// P7.2: which seeds there are, in which order, and how many, all makes a difference.
func TestSeedsDiffer(t *testing.T) {
	lists := [][]uint64{{}, {0}, {0, 0}, {1}, {2}, {1, 2}, {2, 1}, {1, 1}, {2, 2}, {1, 2, 0}, {0, 1, 2}, {3}, {math.MaxUint64}}
	seen := map[uint64]int{}
	for i, seeds := range lists {
		first := New(seeds...).Next()
		if j, ok := seen[first]; ok {
			t.Errorf("New(%x) and New(%x) both draw %#x", lists[j], seeds, first)
		}
		seen[first] = i
	}
}

// P7.2: one seed that undoes what the state becomes leaves all bits 0, and the draws are those without seeds.
func TestSeedThatLeavesNothing(t *testing.T) {
	if got, want := draws(New(0x9E3779B97F4A7C15), 5), draws(New(), 5); !slices.Equal(got, want) {
		t.Errorf("%x, want %x", got, want)
	}
}

// P7.3
func TestTries(t *testing.T) {
	if Tries != 16 {
		t.Errorf("Tries: %d", Tries)
	}
}

// P7.3: below 1 there is nothing, and nothing is drawn.
func TestBelowOfNothing(t *testing.T) {
	r, other := New(7), New(7)
	for _, n := range []int{0, -1, -2, -5, -1 << 32, math.MinInt + 1, math.MinInt, -math.MaxInt, -third} {
		if got := r.Below(n); got != 0 {
			t.Errorf("Below(%d): %d", n, got)
		}
		if *r != *other {
			t.Fatalf("Below(%d) draws", n)
		}
	}
	if got, want := r.Next(), other.Next(); got != want {
		t.Errorf("Next: %#x, want %#x", got, want)
	}
}

// P7.3: the only number below 1 is drawn, all the same.
func TestBelowOfOneDraws(t *testing.T) {
	r, other := New(7), New(7)
	for range 5 {
		if got := r.Below(1); got != 0 {
			t.Errorf("Below(1): %d", got)
		}
		other.Next()
	}
	if *r != *other {
		t.Error("Below(1) draws not just once")
	}
}

// P7.3: each number is drawn, and none too often.
func TestBelowOfFew(t *testing.T) {
	for _, n := range []int{2, 3, 5, 6, 7, 8, 10, 64, 100} {
		r := New(uint64(n))
		seen := make([]int, n)
		for range 1000 * n {
			got := r.Below(n)
			if got < 0 || got >= n {
				t.Fatalf("Below(%d): %d", n, got)
			}
			seen[got]++
		}
		for i, times := range seen {
			if times < 800 || times > 1200 {
				t.Errorf("Below(%d): %d of %d are %d", n, times, 1000*n, i)
			}
		}
	}
}

// P7.3: of all kinds of n, those among them of which many draws aren't fair.
func TestBelowIsAsItIsTold(t *testing.T) {
	all := []int{third - 1, third, third + 1, 2 * (third / 3), math.MaxInt, math.MaxInt - 1, math.MinInt, -1, 0}
	for bit := range 63 {
		all = append(all, 1<<bit, 1<<bit-1, 1<<bit+1, 3<<bit, 5<<bit+1)
	}
	for i := 1; i < 100; i++ {
		all = append(all, i, math.MaxInt/i, math.MaxInt/i+1)
	}
	tried := 0
	for _, n := range all {
		r, m := New(1, uint64(n)), seeded(1, uint64(n))
		for range 20 {
			before := m.drawn
			if got, want := r.Below(n), m.below(n); got != want {
				t.Fatalf("Below(%d): %d, want %d", n, got, want)
			}
			if m.drawn > before+1 {
				tried++
			}
			if r.state != m.state.Uint64() {
				t.Fatalf("Below(%d) draws otherwise than %d times", n, m.drawn-before)
			}
		}
	}
	if tried < 50 {
		t.Errorf("only %d times a number was drawn again", tried)
	}
}

// P7.3: by each of these seeds, so many draws ahead of a fair one aren't fair; of 16 or more, the sixteenth is taken.
func TestBelowOfUnfairDraws(t *testing.T) {
	seeds := []uint64{
		0, 4, 61, 10, 165, 49, 581, 1456, 8074, 8225, 90372, 372985, 1246287, 3086177, 24271003, 749702,
		188960076, 369292085, 10574813, 179538159,
	}
	for unfair, seed := range seeds {
		all := draws(New(seed), 20)
		if fair := slices.IndexFunc(all, func(n uint64) bool { return n >= third-2 }); fair != unfair {
			t.Fatalf("seed %d: %d draws aren't fair, want %d", seed, fair, unfair)
		}
		last := min(unfair, 15)
		r := New(seed)
		if got, want := r.Below(third), int(all[last]%third); got != want {
			t.Errorf("seed %d: Below(%d): %d, want %d", seed, third, got, want)
		}
		other := New(seed)
		draws(other, last+1)
		if *r != *other {
			t.Errorf("seed %d: Below(%d) draws not just %d times", seed, third, last+1)
		}
	}
}

// P7.3: the remainder of 2^64 itself is fair, the number ahead of it isn't.
func TestBelowAtTheRemainder(t *testing.T) {
	// unmixed: a Rand that draws that number next.
	unmixed := func(want uint64) *Rand { return &Rand{state: unmix(want) - step} }
	for _, n := range []int{3, 5, 6, 7, 1000, 1<<32 + 1, 1<<62 + 1, third, math.MaxInt} {
		least := -uint64(n) % uint64(n)
		fair, unfair := unmixed(least), unmixed(least-1)
		again := unmixed(least - 1)
		again.Next()
		if got := fair.Below(n); got != int(least) {
			t.Errorf("Below(%d) of %d: %d", n, least, got)
		}
		if got, want := unfair.Below(n), again.Below(n); got != want || *unfair != *again {
			t.Errorf("Below(%d) of %d: %d, want %d", n, least-1, got, want)
		}
	}
	for _, n := range []int{1, 2, 4, 1 << 20, 1 << 62} {
		r := unmixed(0)
		if got := r.Below(n); got != 0 || r.state != 0 {
			t.Errorf("Below(%d) of 0: %d, and not by one draw", n, got)
		}
	}
}

// unmix: the number of which Mix is that one. Each step of Mix can be gone back: a factor that is odd by the one whose product with it is 1, a shift by shifting till nothing is left.
func unmix(z uint64) uint64 {
	back := func(z uint64, shift int) uint64 {
		was := z
		for range 64 / shift {
			was = z ^ was>>shift
		}
		return was
	}
	inverse := func(factor uint64) uint64 {
		power := uint64(1)
		// The order of each odd number divides 2^62.
		for range 62 {
			power *= factor
			factor *= factor
		}
		return power
	}
	z = back(z, 31) * inverse(0x94D049BB133111EB)
	z = back(z, 27) * inverse(0xBF58476D1CE4E5B9)
	return back(z, 30)
}

// P7.1: no two numbers are mixed alike, for each can be found again.
func TestMixCanBeGoneBack(t *testing.T) {
	for _, z := range edges {
		if unmix(Mix(z)) != z || Mix(unmix(z)) != z {
			t.Errorf("%#x isn't found again", z)
		}
	}
}

// P2: seeds that are handed in stay as they are, and aren't kept.
func TestSeedsAreNotKept(t *testing.T) {
	room := slices.Clone(edges)
	r := New(room[:3]...)
	want := draws(New(room[:3]...), 10)
	first := draws(r, 5)
	if !slices.Equal(room, edges) {
		t.Error("seeds that were handed in are changed")
	}
	clear(room)
	if got := append(first, draws(r, 5)...); !slices.Equal(got, want) {
		t.Errorf("%x after the seeds were changed, want %x", got, want)
	}
}

// P2: what one draws makes no difference to another one.
func TestEachDrawsByItself(t *testing.T) {
	want := draws(New(3, 4), 10)
	one, other := New(3, 4), New(3, 4)
	var got []uint64
	for i := range 10 {
		got = append(got, one.Next())
		for range i {
			other.Next()
			other.Below(6)
			New(5).Next()
			Mix(uint64(i))
		}
	}
	if !slices.Equal(got, want) {
		t.Errorf("%x, want %x", got, want)
	}
}
