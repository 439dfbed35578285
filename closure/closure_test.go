package closure

import (
	"bytes"
	"math"
	"slices"
	"testing"

	"almonry/equation"
	"almonry/rng"
)

// eq: an equation of some blocks.
func eq(value string, of ...int) equation.Equation {
	return equation.Equation{Of: of, Value: []byte(value)}
}

// some: numbers from 0 on below all, each of them as if by chance, rising.
func some(all int, r *rng.Rand) []int {
	var of []int
	for n := range all {
		if r.Below(3) == 0 {
			of = append(of, n)
		}
	}
	return of
}

// shuffled: a list in another order, as if by chance.
func shuffled[T any](l []T, r *rng.Rand) []T {
	l = slices.Clone(l)
	for i := len(l) - 1; i > 0; i-- {
		j := r.Below(i + 1)
		l[i], l[j] = l[j], l[i]
	}
	return l
}

// fits: what P16.1 tells, number by number.
func fits(all int, of []int) bool {
	for i, n := range of {
		if n < 0 || n >= all || i > 0 && of[i-1] >= n {
			return false
		}
	}
	return true
}

// reached: what P16.2 tells, all equations gone through until there is nothing more.
func reached(all int, eqs [][]int) []int {
	known := map[int]bool{}
	for more := true; more; {
		more = false
		for _, of := range eqs {
			var left []int
			for _, n := range of {
				if !known[n] {
					left = append(left, n)
				}
			}
			if fits(all, of) && len(left) == 1 {
				known[left[0]], more = true, true
			}
		}
	}
	var l []int
	for n := range known {
		l = append(l, n)
	}
	slices.Sort(l)
	return l
}

// closed: what P16.3 tells of equations that are asked.
func closed(all, size int, eqs []equation.Equation) []equation.Equation {
	var of [][]int
	for _, e := range eqs {
		of = append(of, e.Of)
	}
	known := reached(all, of)
	var l []equation.Equation
	for _, e := range eqs {
		in := fits(all, e.Of) && len(e.Value) == size
		for _, n := range e.Of {
			in = in && slices.Contains(known, n)
		}
		if in {
			l = append(l, e)
		}
	}
	return l
}

// agree: what P16.3 tells, bit by bit, for bits have nothing to do with each other: all values of the bit of all blocks are tried. (What blocks are that don't follow is of no matter.)
func agree(all, size int, eqs []equation.Equation) bool {
	l := closed(all, size, eqs)
	for bit := range 8 * size {
		found := false
		for try := 0; try < 1<<max(all, 0) && !found; try++ {
			found = true
			for _, e := range l {
				sum := int(e.Value[bit/8]>>(bit%8)) & 1
				for _, n := range e.Of {
					sum ^= try >> n & 1
				}
				found = found && sum == 0
			}
		}
		if !found {
			return false
		}
	}
	return true
}

// P16.1: against a model, for all lists of up to four numbers; and at edges.
func TestFits(t *testing.T) {
	var try func(of []int, more int)
	try = func(of []int, more int) {
		for all := -2; all < 6; all++ {
			if got, want := Fits(all, of), fits(all, of); got != want {
				t.Errorf("Fits(%d, %v): %v", all, of, got)
			}
		}
		if more > 0 {
			for n := -2; n < 6; n++ {
				try(append(of, n), more-1)
			}
		}
	}
	try(nil, 4)
	for _, c := range []struct {
		all  int
		of   []int
		want bool
	}{
		{0, nil, true},
		{0, []int{}, true},
		{-1, nil, true},
		{math.MinInt, nil, true},
		{0, []int{0}, false},
		{1, []int{0}, true},
		{3, []int{0, 2}, true},
		{3, []int{0, 1, 2}, true},
		{3, []int{0, 3}, false},
		{3, []int{2, 2}, false},
		{3, []int{2, 1}, false},
		{3, []int{-1}, false},
		{3, []int{-1, 0, 1}, false},
		{3, []int{0, -1}, false},
		{-1, []int{-2}, false},
		{math.MaxInt, []int{math.MaxInt - 1}, true},
		{math.MaxInt, []int{0, math.MaxInt - 1}, true},
		{math.MaxInt, []int{math.MaxInt}, false},
		{math.MaxInt, []int{math.MinInt}, false},
		{math.MaxInt, []int{math.MinInt, 0}, false},
		{math.MinInt, []int{math.MinInt}, false},
		{1 << 33, []int{1, 1 << 32}, true},
	} {
		if got := Fits(c.all, c.of); got != c.want {
			t.Errorf("Fits(%d, %v): %v", c.all, c.of, got)
		}
	}
}

// P16.2: the example, and others by hand.
func TestReach(t *testing.T) {
	for _, c := range []struct {
		name string
		all  int
		eqs  [][]int
		want []int
	}{
		{"the example", 4, [][]int{{0}, {0, 1}, {1, 2, 3}}, []int{0, 1}},
		{"nothing", 4, nil, nil},
		{"equations of no blocks", 4, [][]int{nil, {}}, nil},
		{"one block", 4, [][]int{{2}}, []int{2}},
		{"the same twice", 4, [][]int{{2}, {2}}, []int{2}},
		{"two by one each", 4, [][]int{{3}, {1}}, []int{1, 3}},
		{"two blocks", 4, [][]int{{1, 2}}, nil},
		{"two blocks twice", 4, [][]int{{1, 2}, {1, 2}}, nil},
		// They would follow, put upon each other; but that isn't asked.
		{"three in a ring", 3, [][]int{{0, 1}, {1, 2}, {0, 1, 2}}, nil},
		{"one by two", 4, [][]int{{0}, {1}, {0, 2}, {1, 2}}, []int{0, 1, 2}},
		{"from behind", 4, [][]int{{2, 3}, {1, 2}, {0, 1}, {0}}, []int{0, 1, 2, 3}},
		{"three at once", 5, [][]int{{0, 1, 2, 4}, {0}, {1}, {2}}, []int{0, 1, 2, 4}},
		{"all but two", 5, [][]int{{0, 1, 2, 4}, {0}, {1}}, []int{0, 1}},
		{"the last one", 4, [][]int{{3}}, []int{3}},
		{"behind the last one", 4, [][]int{{4}}, nil},
		{"below 0", 4, [][]int{{-1}, {-1, 0}}, nil},
		{"no blocks", 0, [][]int{{0}, {}}, nil},
		{"below no blocks", -1, [][]int{{0}, {-1}, {-2}, {}}, nil},
		{"what doesn't rise", 4, [][]int{{0}, {1, 0}, {0, 0, 2}, {3, 3, 3}}, []int{0}},
		// One that doesn't fit says nothing of its other blocks.
		{"what fits nearly", 4, [][]int{{0}, {0, 1, 4}, {-1, 0, 2}, {0, 0, 3}}, []int{0}},
		{"what fits among others", 4, [][]int{{0, 9}, {0}, {1, 0}, {0, 2}, {-1, 2}}, []int{0, 2}},
		{"great numbers", math.MaxInt, [][]int{{5, math.MaxInt - 1}, {5}, {math.MaxInt}}, []int{5, math.MaxInt - 1}},
	} {
		if got := Reach(c.all, c.eqs...); !slices.Equal(got, c.want) {
			t.Errorf("%s: Reach(%d) of %v: %v, want %v", c.name, c.all, c.eqs, got, c.want)
		}
	}
}

// P16.2: all sets of equations of three blocks, and many of more blocks in whatever order, against a model.
func TestReachAgainstModel(t *testing.T) {
	for set := range 1 << 8 {
		var eqs [][]int
		for e := range 8 {
			if set>>e&1 == 1 {
				var of []int
				for n := range 3 {
					if e>>n&1 == 1 {
						of = append(of, n)
					}
				}
				eqs = append(eqs, of)
			}
		}
		for all := -1; all < 5; all++ {
			if got, want := Reach(all, eqs...), reached(all, eqs); !slices.Equal(got, want) {
				t.Fatalf("Reach(%d) of %v: %v, want %v", all, eqs, got, want)
			}
		}
	}
	r := rng.New(16, 2)
	for range 2000 {
		all := 1 + r.Below(12)
		eqs := make([][]int, r.Below(16))
		for i := range eqs {
			eqs[i] = some(all, r)
			if r.Below(9) == 0 {
				eqs[i] = append(eqs[i], r.Below(all+2)-1)
			}
		}
		asked := all - r.Below(3)
		want := reached(asked, eqs)
		for range 3 {
			if got := Reach(asked, eqs...); !slices.Equal(got, want) {
				t.Fatalf("Reach(%d) of %v: %v, want %v", asked, eqs, got, want)
			}
			eqs = shuffled(eqs, r)
		}
	}
}

// P16.2: chains of many blocks, from either end and in any order, and equations of many blocks.
func TestReachOfMany(t *testing.T) {
	const all = 1 << 17
	chain := [][]int{{0}}
	whole := make([]int, all)
	for n := range all - 1 {
		chain = append(chain, []int{n, n + 1})
		whole[n+1] = n + 1
	}
	r := rng.New(16, 3)
	back := slices.Clone(chain)
	slices.Reverse(back)
	for name, eqs := range map[string][][]int{"rising": chain, "falling": back, "shuffled": shuffled(chain, r)} {
		if !slices.Equal(Reach(all, eqs...), whole) {
			t.Errorf("a chain, %s: not all follow", name)
		}
	}
	if got := Reach(all, chain[1:]...); len(got) != 0 {
		t.Errorf("a chain without a head: %d follow", len(got))
	}
	var ones [][]int
	for n := range all - 1 {
		ones = append(ones, []int{n})
	}
	if got := Reach(all, append(ones, whole)...); !slices.Equal(got, whole) {
		t.Error("the last of many: doesn't follow")
	}
	if got := Reach(all, append(ones[1:], whole)...); len(got) != all-2 {
		t.Errorf("two of many: %d follow", len(got))
	}
	// All of them have the one block by which all others follow.
	star := [][]int{}
	for n := range all - 1 {
		star = append(star, []int{n, all - 1})
	}
	if got := Reach(all, append(star, []int{3})...); !slices.Equal(got, whole) {
		t.Errorf("a star: %d follow", len(got))
	}
}

// P16.3: whichever order the numbers are in, and however often they are there.
func TestClosed(t *testing.T) {
	for _, c := range []struct {
		known, of []int
		want      bool
	}{
		{nil, nil, true},
		{[]int{1, 4}, nil, true},
		{[]int{1, 4}, []int{}, true},
		{nil, []int{0}, false},
		{[]int{0}, []int{0}, true},
		{[]int{1, 4}, []int{1}, true},
		{[]int{1, 4}, []int{4}, true},
		{[]int{1, 4}, []int{1, 4}, true},
		{[]int{1, 4}, []int{4, 1, 4}, true},
		{[]int{1, 4}, []int{0}, false},
		{[]int{1, 4}, []int{2}, false},
		{[]int{1, 4}, []int{5}, false},
		{[]int{1, 4}, []int{1, 2, 4}, false},
		{[]int{1, 4}, []int{2, 1, 4}, false},
		{[]int{1, 4}, []int{1, 4, 5}, false},
		{[]int{1, 4}, []int{-1, 1, 4}, false},
		{[]int{-3, 0, 7}, []int{-3, 7}, true},
		{[]int{math.MinInt, math.MaxInt}, []int{math.MaxInt, math.MinInt}, true},
		{[]int{math.MinInt, math.MaxInt}, []int{0}, false},
	} {
		if got := Closed(c.known, c.of); got != c.want {
			t.Errorf("Closed(%v, %v): %v", c.known, c.of, got)
		}
	}
	r := rng.New(16, 4)
	for range 500 {
		known, of := some(20, r), shuffled(some(9, r), r)
		want := true
		for _, n := range of {
			want = want && slices.Contains(known, n)
		}
		if got := Closed(known, of); got != want {
			t.Fatalf("Closed(%v, %v): %v", known, of, got)
		}
	}
}

// P16.3: by hand.
func TestAgrees(t *testing.T) {
	for _, c := range []struct {
		name      string
		all, size int
		eqs       []equation.Equation
		want      bool
	}{
		{"nothing", 4, 1, nil, true},
		{"nothing of no blocks", 0, 0, nil, true},
		{"one", 4, 1, []equation.Equation{eq("\x01", 0)}, true},
		{"one twice", 4, 1, []equation.Equation{eq("\x01", 0), eq("\x01", 0)}, true},
		{"one that is two", 4, 1, []equation.Equation{eq("\x01", 0), eq("\x02", 0)}, false},
		{"the last bit", 4, 2, []equation.Equation{eq("\x01\x00", 0), eq("\x01\x80", 0)}, false},
		{"no blocks that are nothing", 4, 2, []equation.Equation{eq("\x00\x00")}, true},
		{"no blocks that are something", 4, 2, []equation.Equation{eq("\x00\x01")}, false},
		{"no blocks of another size", 4, 2, []equation.Equation{eq("\x01"), eq("\x01\x01\x01")}, true},
		{"no blocks at all", 0, 1, []equation.Equation{eq("\x01")}, false},
		{"below no blocks", -1, 1, []equation.Equation{eq("\x01")}, false},
		{"three", 4, 1, []equation.Equation{eq("\x01", 0), eq("\x03", 0, 1), eq("\x02", 1)}, true},
		{"three that don't", 4, 1, []equation.Equation{eq("\x01", 0), eq("\x03", 0, 1), eq("\x03", 1)}, false},
		{"two by two", 4, 1, []equation.Equation{eq("\x01", 0), eq("\x02", 1), eq("\x04", 0, 2), eq("\x07", 1, 2)}, true},
		{"two by two that don't", 4, 1, []equation.Equation{eq("\x01", 0), eq("\x02", 1), eq("\x04", 0, 2), eq("\x04", 1, 2)}, false},
		// What isn't closed is of no matter.
		{"two that aren't closed", 4, 1, []equation.Equation{eq("\x07", 2, 3), eq("\x08", 2, 3)}, true},
		{"two that are half closed", 4, 1, []equation.Equation{eq("\x01", 0), eq("\x07", 0, 2, 3), eq("\x08", 0, 2, 3)}, true},
		{"two that are closed at last", 4, 1, []equation.Equation{eq("\x07", 2, 3), eq("\x08", 2, 3), eq("\x00", 2)}, false},
		{"a ring that isn't closed", 3, 1, []equation.Equation{eq("\x01", 0, 1), eq("\x02", 1, 2), eq("\x04", 0, 2)}, true},
		// What doesn't fit is of no matter, and nothing follows of it.
		{"what doesn't fit", 2, 1, []equation.Equation{eq("\x01", 2), eq("\x02", 2), eq("\x01", -1), eq("\x01", 0, 0), eq("\x02", 1, 0)}, true},
		{"what follows of what doesn't fit", 2, 1, []equation.Equation{eq("\x01", 0), eq("\x01", 1, 0), eq("\x01", 0, 1, 2), eq("\x01", 1, 1, 1)}, true},
		// What has another size is of no matter, but that blocks follow of it.
		{"another size", 2, 1, []equation.Equation{eq("\x01", 0), eq("", 0), eq("\x02\x02", 0)}, true},
		{"closed by another size", 2, 1, []equation.Equation{eq("", 0), eq("\x01", 0, 1), eq("\x01", 0, 1)}, true},
		{"closed by another size, and don't", 2, 1, []equation.Equation{eq("", 0), eq("\x01", 0, 1), eq("\x02", 0, 1)}, false},
		{"closed by another size behind", 2, 1, []equation.Equation{eq("\x01", 0, 1), eq("\x02", 0, 1), eq("\x02\x02", 1)}, false},
		{"not closed without it", 2, 1, []equation.Equation{eq("\x01", 0, 1), eq("\x02", 0, 1)}, true},
		{"a ring of which any value is good", 3, 1, []equation.Equation{eq("", 0), eq("\x01", 0, 1), eq("\x02", 1, 2), eq("\x03", 0, 2)}, true},
		{"a ring of which none is", 3, 1, []equation.Equation{eq("", 0), eq("\x01", 0, 1), eq("\x02", 1, 2), eq("\x04", 0, 2)}, false},
		{"a ring by two of another size", 3, 1, []equation.Equation{eq("", 0), eq("", 1), eq("", 2), eq("\x01", 0, 1), eq("\x02", 1, 2), eq("\x04", 0, 2)}, false},
		{"a value by a ring", 3, 1, []equation.Equation{eq("", 0), eq("\x01", 0, 1), eq("\x02", 0, 1, 2), eq("\x03", 2)}, true},
		{"no value by a ring", 3, 1, []equation.Equation{eq("", 0), eq("\x01", 0, 1), eq("\x02", 0, 1, 2), eq("\x02", 2)}, false},
		{"a value, in spite of another size", 2, 1, []equation.Equation{eq("", 0), eq("\x01", 0), eq("\x02", 0)}, false},
		{"by blocks that follow of both", 2, 1, []equation.Equation{eq("", 0), eq("\x01", 1), eq("\x02", 0, 1), eq("\x03", 0)}, true},
		{"by blocks that follow of both, and don't", 2, 1, []equation.Equation{eq("", 0), eq("\x01", 1), eq("\x02", 0, 1), eq("\x02", 0)}, false},
		// Of no bytes all are alike.
		{"no bytes", 2, 0, []equation.Equation{eq("", 0), eq("", 0), eq("", 0, 1), eq("", 1), eq("")}, true},
		{"no bytes, and others", 2, 0, []equation.Equation{eq("\x01", 0), eq("\x02", 0), eq("\x01"), eq("", 0, 1)}, true},
		{"great numbers", math.MaxInt, 1, []equation.Equation{eq("\x01", math.MaxInt-1), eq("\x02", 7, math.MaxInt-1), eq("\x03", 7), eq("\x03", math.MaxInt)}, true},
		{"great numbers that don't", math.MaxInt, 1, []equation.Equation{eq("\x01", math.MaxInt-1), eq("\x02", 7, math.MaxInt-1), eq("\x02", 7)}, false},
	} {
		if got := Agrees(c.all, c.size, c.eqs...); got != c.want {
			t.Errorf("%s: Agrees(%d, %d) of %v: %v", c.name, c.all, c.size, c.eqs, got)
		}
		if got := agree(min(c.all, 9), c.size, c.eqs); c.all < 9 && got != c.want {
			t.Errorf("%s: by the model %v", c.name, got)
		}
		slices.Reverse(c.eqs)
		if got := Agrees(c.all, c.size, c.eqs...); got != c.want {
			t.Errorf("%s, from behind: %v", c.name, got)
		}
	}
}

// P16.3: against a model, equations in whatever order; most of them hold of some blocks, so that many agree; some have values of another size, some don't fit.
func TestAgreesAgainstModel(t *testing.T) {
	r := rng.New(16, 5)
	yes, no := 0, 0
	for range 6000 {
		all, size := 1+r.Below(6), r.Below(3)
		blocks := make([][]byte, all)
		for i := range blocks {
			blocks[i] = []byte{byte(r.Next()), byte(r.Next())}[:size]
		}
		other, wrong := r.Below(8), r.Below(12)
		eqs := make([]equation.Equation, r.Below(14))
		for i := range eqs {
			e := equation.Equation{Of: some(all, r), Value: make([]byte, size)}
			for _, n := range e.Of {
				for k, x := range blocks[n] {
					e.Value[k] ^= x
				}
			}
			switch k := r.Below(24); {
			case k < other:
				e.Value = make([]byte, (size+1+r.Below(2))%3)
			case k > 12+wrong && size > 0:
				e.Value[r.Below(size)] ^= 1 << r.Below(8)
			case k == 11:
				e.Of = append(e.Of, r.Below(all+2)-1)
			}
			eqs[i] = e
		}
		asked := all + r.Below(3) - 1
		want := agree(asked, size, eqs)
		for range 3 {
			if got := Agrees(asked, size, eqs...); got != want {
				t.Fatalf("Agrees(%d, %d) of %v: %v", asked, size, eqs, got)
			}
			eqs = shuffled(eqs, r)
		}
		if want {
			yes++
		} else {
			no++
		}
	}
	if yes < 1000 || no < 1000 {
		t.Errorf("%d agree, %d don't", yes, no)
	}
}

// P16.3: equations of two or three blocks, all of which follow of ones of another size, so that any values may be that make them hold.
func TestAgreesWhereValuesAreFree(t *testing.T) {
	r := rng.New(16, 6)
	yes, no := 0, 0
	for range 1500 {
		all := 3 + r.Below(6)
		var eqs []equation.Equation
		for n := range all {
			eqs = append(eqs, eq("", n))
		}
		for range r.Below(all + 3) {
			a, b, c := r.Below(all), r.Below(all), r.Below(all)
			of := equation.Odd(a, b)
			if r.Below(2) == 0 {
				of = equation.Odd(a, b, c)
			}
			if len(of) > 0 {
				eqs = append(eqs, equation.Equation{Of: of, Value: []byte{byte(r.Below(2))}})
			}
		}
		want := agree(all, 1, eqs)
		if got := Agrees(all, 1, eqs...); got != want {
			t.Fatalf("Agrees(%d, 1) of %v: %v", all, eqs, got)
		}
		if want {
			yes++
		} else {
			no++
		}
	}
	if yes < 300 || no < 300 {
		t.Errorf("%d agree, %d don't", yes, no)
	}
}

// chained: equations of blocks, each of which is the one ahead of it put upon a value; the first one follows of its head; and some more of two blocks each.
func chained(head string, all, more int, r *rng.Rand) []equation.Equation {
	values := make([]byte, all)
	l := []equation.Equation{eq(head, 0)}
	values[0] = 1
	for n := 1; n < all; n++ {
		values[n] = byte(r.Next())
		l = append(l, equation.Equation{Of: []int{n - 1, n}, Value: []byte{values[n-1] ^ values[n]}})
	}
	for range more {
		a, b := r.Below(all), r.Below(all)
		l = append(l, equation.Equation{Of: equation.Odd(a, b), Value: []byte{values[a] ^ values[b]}})
	}
	return l
}

// P16.3: many blocks, with a head that has a value, with one that has another size, and without one.
func TestAgreesOfMany(t *testing.T) {
	const all, more = 20000, 20000
	r := rng.New(16, 7)
	for _, head := range []string{"\x01", ""} {
		l := shuffled(chained(head, all, more, r), r)
		if !Agrees(all, 1, l...) {
			t.Errorf("a head of %d bytes: doesn't agree", len(head))
		}
		turned := func(at int, want bool) {
			if len(l[at].Value) == 1 {
				l[at].Value[0] ^= 64
				if Agrees(all, 1, l...) != want {
					t.Errorf("a head of %d bytes, the equation %d turned: agrees %v", len(head), at, !want)
				}
				l[at].Value[0] ^= 64
			}
		}
		for range 3 {
			turned(r.Below(len(l)), false)
		}
		// Nothing else says what the blocks of a chain alone are, so any values are as good.
		l = chained(head, all, 0, r)
		turned(all/2, true)
	}
	open := chained("\x01", all, more, r)[1:]
	open[7].Value[0] ^= 64
	if !Agrees(all, 1, open...) {
		t.Error("nothing is closed without a head: doesn't agree")
	}
}

// P16.3: each block is the one ahead of it, put upon one that may be anything: what is made of all of them may be anything, too.
func TestAgreesOfSums(t *testing.T) {
	const many = 20000
	r := rng.New(16, 8)
	l := []equation.Equation{eq("", 0)}
	for n := range many {
		l = append(l, eq("", many+1+n), equation.Equation{Of: []int{n, n + 1, many + 1 + n}, Value: []byte{byte(r.Next())}})
	}
	for _, last := range []string{"\x05", "\x06"} {
		if !Agrees(2*many+1, 1, append(l, eq(last, many))...) {
			t.Errorf("the last one is %q: doesn't agree", last)
		}
	}
	if Agrees(2*many+1, 1, append(l, eq("\x05", many), eq("\x06", many))...) {
		t.Error("the last one is two: agrees")
	}
}

// P16.3: the greatest size.
func TestAgreesOfGreatValues(t *testing.T) {
	const size = 1 << 24
	a, b := make([]byte, size), make([]byte, size)
	a[0], a[size-1], b[size-1] = 1, 2, 4
	sum := bytes.Clone(a)
	sum[size-1] ^= 4
	of := func(value []byte, of ...int) equation.Equation { return equation.Equation{Of: of, Value: value} }
	if !Agrees(3, size, of(a, 0), of(b, 0, 1), of(sum, 1)) || Agrees(3, size, of(a, 0), of(b, 0, 1), of(a, 1)) {
		t.Error("great values")
	}
	if !Agrees(3, size, of(nil, 0), of(a, 0, 1), of(b, 1, 2), of(sum, 0, 2)) || Agrees(3, size, of(nil, 0), of(a, 0, 1), of(b, 1, 2), of(a, 0, 2)) {
		t.Error("great values that are free")
	}
}

// P2: what is handed in stays as it was, and so does its spare room.
func TestNothingIsChanged(t *testing.T) {
	room := []int{0, 1, 2, 77, 78}
	value := append(make([]byte, 0, 4), 1)
	eqs := []equation.Equation{
		{Of: room[:3], Value: value},
		{Of: room[:1]},
		{Of: room[:2], Value: value},
		{Of: room[:2], Value: value},
		{Of: room[1:3], Value: value},
		{Of: room[:4], Value: value},
		{Of: []int{2, 1}, Value: value},
	}
	var of [][]int
	for _, e := range eqs {
		of = append(of, e.Of)
	}
	before := slices.Clone(eqs)
	one := Agrees(3, 1, eqs...)
	two := Agrees(3, 1, eqs[1:]...)
	Agrees(3, 0, eqs...)
	Reach(3, of...)
	Reach(2, of...)
	Fits(3, of[0])
	Closed(of[0], of[6])
	if !slices.Equal(room, []int{0, 1, 2, 77, 78}) || !slices.Equal(eqs[6].Of, []int{2, 1}) {
		t.Errorf("numbers are changed: %v, %v", room, eqs[6].Of)
	}
	if !bytes.Equal(value[:4], []byte{1, 0, 0, 0}) {
		t.Errorf("a value is changed: %v", value[:4])
	}
	if !slices.EqualFunc(eqs, before, equation.Same) || len(of[5]) != 4 {
		t.Errorf("equations are changed: %v", eqs)
	}
	if Agrees(3, 1, eqs...) != one || Agrees(3, 1, eqs[1:]...) != two {
		t.Error("calls before make a difference")
	}
}

// P2: what Reach answers is new memory.
func TestReachAnswersNewMemory(t *testing.T) {
	eqs := [][]int{{0}, {0, 1}, {1, 2}}
	one := Reach(3, eqs...)
	two := Reach(3, eqs...)
	for i := range one[:cap(one)] {
		one[:cap(one)][i] = 99
	}
	want := []int{0, 1, 2}
	if !slices.Equal(two, want) || !slices.Equal(Reach(3, eqs...), want) || eqs[0][0] != 0 || eqs[2][1] != 2 {
		t.Error("an answer shares memory")
	}
	clear(eqs[0])
	clear(eqs[1])
	clear(eqs[2])
	if !slices.Equal(two, want) {
		t.Error("an argument shares memory with an answer")
	}
}

// P1: calls at all arguments end.
func TestCallsAtAllArguments(t *testing.T) {
	numbers := []int{math.MinInt, -1 << 32, -1, 0, 1, 2, 3, 1 << 20, 1 << 24, 1<<24 + 1, 1 << 32, math.MaxInt - 1, math.MaxInt}
	values := [][]byte{nil, {}, {0}, {1}, {1, 2}}
	for _, n := range numbers {
		for _, m := range numbers {
			lists := [][]int{nil, {}, {n}, {m}, {n, m}, {m, n}, {n, n}, {0, n, m}, numbers}
			Reach(n, lists...)
			Reach(m, lists...)
			var eqs []equation.Equation
			for _, of := range lists {
				Fits(n, of)
				Closed(of, []int{n, m})
				Closed(numbers, of)
				for _, v := range values {
					eqs = append(eqs, equation.Equation{Of: of, Value: v})
				}
			}
			Agrees(n, m, eqs...)
			Agrees(m, n, eqs...)
			Agrees(n, 1, eqs...)
			Agrees(n, m)
		}
	}
	// Values longer than those of which something is promised, of blocks that may be anything.
	great := make([]byte, 1<<24+1)
	of := func(of ...int) equation.Equation { return equation.Equation{Of: of, Value: great} }
	Agrees(3, len(great), eq("", 0), of(0, 1), of(1, 2), of(0, 2), of(0, 1, 2))
}
