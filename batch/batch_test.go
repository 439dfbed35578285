package batch

import (
	"bytes"
	"fmt"
	"math"
	"slices"
	"testing"

	"almonry/api"
	"almonry/closure"
	"almonry/compose"
	"almonry/equation"
	"almonry/inner"
	"almonry/outer"
	"almonry/params"
	"almonry/rng"
)

// eq: an equation of some blocks.
func eq(value string, of ...int) equation.Equation {
	return equation.Equation{Of: of, Value: []byte(value)}
}

// eqs: equations, as a list.
func eqs(l ...equation.Equation) []equation.Equation { return l }

// some: numbers from 0 on below all, each of them as if by chance, rising.
func some(all int, r *rng.Rand) []int {
	var of []int
	for n := range all {
		if r.Below(3) == 0 {
			of = append(of, n)
		}
	}
	return of
}

// shuffled: a list in another order, as if by chance.
func shuffled[T any](l []T, r *rng.Rand) []T {
	l = slices.Clone(l)
	for i := len(l) - 1; i > 0; i-- {
		j := r.Below(i + 1)
		l[i], l[j] = l[j], l[i]
	}
	return l
}

// used: the equations that P17.1 doesn't pass over, number by number.
func used(all, size int, l []equation.Equation) []equation.Equation {
	var out []equation.Equation
	for _, e := range l {
		fits := len(e.Value) == size
		for i, n := range e.Of {
			fits = fits && n >= 0 && n < all && (i == 0 || e.Of[i-1] < n)
		}
		if fits {
			out = append(out, e)
		}
	}
	return out
}

// following: the blocks that follow, all equations gone through until there is nothing more.
func following(l []equation.Equation) map[int]bool {
	known := map[int]bool{}
	for more := true; more; {
		more = false
		for _, e := range l {
			left := e.Left(func(n int) bool { return known[n] })
			if len(left) == 1 {
				known[left[0]], more = true, true
			}
		}
	}
	return known
}

// allows: does an equation hold of a bit of all blocks, which are the bits of a number?
func allows(e equation.Equation, bit, blocks int) bool {
	sum := int(e.Value[bit/8]>>(bit%8)) & 1
	for _, n := range e.Of {
		sum ^= blocks >> n & 1
	}
	return sum == 0
}

// solved: what P17.1 and P17.2 tell, bit by bit, for bits have nothing to do with each other: all values of a bit of all blocks that follow are tried. Values that aren't the only ones are told.
func solved(t *testing.T, all, size int, l []equation.Equation) Result {
	t.Helper()
	l = used(all, size, l)
	known := following(l)
	want := Result{Values: make([][]byte, max(all, 0))}
	for n := range all {
		if known[n] {
			want.Known = append(want.Known, n)
			want.Values[n] = make([]byte, size)
		}
	}
	closed := slices.DeleteFunc(l, func(e equation.Equation) bool {
		return slices.ContainsFunc(e.Of, func(n int) bool { return !known[n] })
	})
	for bit := range 8 * size {
		ways := 0
		for try := range 1 << max(all, 0) {
			fails := func(e equation.Equation) bool { return !allows(e, bit, try) }
			if slices.ContainsFunc(closed, fails) || slices.ContainsFunc(numbers(try), func(n int) bool { return !known[n] }) {
				continue
			}
			ways++
			for _, n := range numbers(try) {
				want.Values[n][bit/8] |= 1 << (bit % 8)
			}
		}
		if ways > 1 {
			t.Fatalf("%v: %d values of the bit %d", l, ways, bit)
		}
		want.Conflict = want.Conflict || ways == 0
	}
	return want
}

// numbers: which bits of a number are set.
func numbers(try int) []int {
	var l []int
	for n := 0; try>>n > 0; n++ {
		if try>>n&1 == 1 {
			l = append(l, n)
		}
	}
	return l
}

// fault: why an answer isn't what is wanted; empty, if it is. Of a conflict, values need but be as long.
func fault(got, want Result, size int) string {
	switch {
	case !slices.Equal(got.Known, want.Known):
		return fmt.Sprintf("Known %v, want %v", got.Known, want.Known)
	case got.Conflict != want.Conflict:
		return fmt.Sprintf("Conflict %v", got.Conflict)
	case len(got.Values) != len(want.Values):
		return fmt.Sprintf("%d Values, want %d", len(got.Values), len(want.Values))
	}
	for n, v := range got.Values {
		many := 0
		if slices.Contains(want.Known, n) {
			many = size
		}
		if len(v) != many || !want.Conflict && !bytes.Equal(v, want.Values[n]) {
			return fmt.Sprintf("the value of %d is %x, want %x", n, v, want.Values[n])
		}
	}
	return ""
}

// values: the values of blocks, each as text; of the empty text: none is known.
func values(l ...string) Result {
	want := Result{Values: make([][]byte, len(l))}
	for n, v := range l {
		if v != "" {
			want.Known = append(want.Known, n)
			want.Values[n] = []byte(v)
		}
	}
	return want
}

// conflict: likewise, of which an equation doesn't hold.
func conflict(l ...string) Result {
	want := values(l...)
	want.Conflict = true
	return want
}

// P17.1, P17.2: the example, and others by hand.
func TestSolve(t *testing.T) {
	for _, c := range []struct {
		name string
		size int
		eqs  []equation.Equation
		want Result
	}{
		{"the example", 1, eqs(eq("\x01", 0), eq("\x03", 0, 1)), values("\x01", "\x02")},
		{"no equations", 1, nil, values("", "", "")},
		{"no blocks", 1, nil, values()},
		{"one", 2, eqs(eq("ab", 1)), values("", "ab", "")},
		{"one of 0", 1, eqs(eq("\x00", 1)), values("", "\x00", "")},
		{"the first and the last one", 1, eqs(eq("a", 2), eq("b", 0)), values("b", "", "a")},
		{"the same twice", 1, eqs(eq("a", 0), eq("a", 0)), values("a", "")},
		{"two of one", 1, eqs(eq("a", 0, 1)), values("", "")},
		{"two blocks by a third one", 1, eqs(eq("\x07", 0, 1, 2), eq("\x01", 0), eq("\x03", 0, 1)), values("\x01", "\x02", "\x04")},
		{"from behind", 1, eqs(eq("\x0c", 2, 3), eq("\x06", 1, 2), eq("\x03", 0, 1), eq("\x01", 0)), values("\x01", "\x02", "\x04", "\x08")},
		{"two bytes each", 2, eqs(eq("\x01\x10", 0), eq("\x03\x00", 0, 1)), values("\x01\x10", "\x02\x10")},
		// They would follow, put upon each other; but that isn't asked.
		{"a ring", 1, eqs(eq("\x03", 0, 1), eq("\x06", 1, 2), eq("\x07", 0, 1, 2)), values("", "", "")},
		{"a ring that doesn't agree", 1, eqs(eq("\x03", 0, 1), eq("\x06", 1, 2), eq("\x00", 0, 2)), values("", "", "")},
		{"what isn't closed", 1, eqs(eq("a", 0), eq("b", 0, 1, 2), eq("c", 0, 1, 2)), values("a", "", "")},
		{"one that is two", 1, eqs(eq("a", 0), eq("b", 0)), conflict("a", "")},
		{"three that don't agree", 1, eqs(eq("\x01", 0), eq("\x01", 1), eq("\x01", 0, 1)), conflict("\x01", "\x01")},
		{"three that agree", 1, eqs(eq("\x01", 0), eq("\x01", 1), eq("\x00", 0, 1)), values("\x01", "\x01")},
		{"the last bit", 2, eqs(eq("a\x01", 0), eq("a\x81", 0)), conflict("aa", "")},
		{"a conflict behind which more follow", 1, eqs(eq("a", 0), eq("b", 0), eq("c", 0, 1), eq("d", 2, 3)), conflict("a", "a", "", "")},
		{"no blocks that are nothing", 1, eqs(eq("\x00"), eq("a", 1)), values("", "a")},
		{"no blocks that are something", 1, eqs(eq("\x02"), eq("a", 1)), conflict("", "a")},
		{"of no blocks at all", 1, eqs(eq("\x02")), conflict()},
		// What doesn't fit, or has another size, is passed over: nothing follows of it, and it is no conflict.
		{"what doesn't fit", 1, eqs(eq("a", 2), eq("b", -1), eq("c", 1, 0), eq("d", 1, 1, 1), eq("e", 0, 2)), values("", "")},
		{"what doesn't fit, and other things", 1, eqs(eq("a", 0), eq("b", 1, 0), eq("b", 0, 0), eq("b", -1, 0), eq("b", 0, 1, 2)), values("a", "")},
		{"another size", 1, eqs(eq("", 0), eq("ab", 1), eq("abc", 0, 1)), values("", "")},
		{"another size behind", 1, eqs(eq("a", 0), eq("bb", 0), eq("", 0), eq("cc", 0, 1)), values("a", "")},
		{"another size that nothing follows of", 1, eqs(eq("aa", 0), eq("a", 0, 1), eq("b", 0, 1)), values("", "")},
		{"another size of no blocks", 1, eqs(eq("bb"), eq("a", 0)), values("a", "")},
		{"none, where there is a size", 1, eqs(equation.Equation{Of: []int{0}}, equation.Equation{}), values("")},
	} {
		for range 2 {
			all := len(c.want.Values)
			if why := fault(Solve(all, c.size, c.eqs...), c.want, c.size); why != "" {
				t.Errorf("%s: %s", c.name, why)
			}
			if why := fault(solved(t, all, c.size, c.eqs), c.want, c.size); why != "" {
				t.Errorf("%s: by the model: %s", c.name, why)
			}
			slices.Reverse(c.eqs)
		}
	}
}

// P17.1: blocks of no bytes follow as others do, and they agree, whatever else there is.
func TestSolveOfNoBytes(t *testing.T) {
	l := eqs(eq("", 1), eq("", 1), eq("", 1, 2), eq(""), eq("", 0, 3), eq("a", 0), eq("", 4), equation.Equation{Of: []int{2}})
	got := Solve(4, 0, l...)
	if !slices.Equal(got.Known, []int{1, 2}) || got.Conflict || len(got.Values) != 4 {
		t.Errorf("%v", got)
	}
	for n, v := range got.Values {
		if len(v) != 0 {
			t.Errorf("the value of %d: %x", n, v)
		}
	}
}

// P17.1: all below 0 counts as 0.
func TestSolveOfBlocksBelowNone(t *testing.T) {
	for _, all := range []int{0, -1, -2, -1 << 40, math.MinInt} {
		got := Solve(all, 1, eq("a", 0), eq("b", -1), eq("c", -2), eq("\x00"))
		if why := fault(got, values(), 1); why != "" {
			t.Errorf("all %d: %s", all, why)
		}
		got = Solve(all, 1, eq("a", 0), eq("b"))
		if why := fault(got, conflict(), 1); why != "" {
			t.Errorf("all %d: %s", all, why)
		}
	}
}

// P17.1, P17.2: all sets of equations of three blocks.
func TestAllSetsOfEquations(t *testing.T) {
	for set := range 1 << 8 {
		for blocks := range 1 << 4 {
			var l []equation.Equation
			for e := range 8 {
				if set>>e&1 == 1 {
					value := byte(0)
					for _, n := range numbers(e) {
						value ^= byte(blocks >> n & 1)
					}
					// Of half of all blocks, one equation is turned.
					if e == 3 {
						value ^= byte(blocks >> 3)
					}
					l = append(l, equation.Equation{Of: numbers(e), Value: []byte{value}})
				}
			}
			for all := -1; all < 5; all++ {
				if why := fault(Solve(all, 1, l...), solved(t, all, 1, l), 1); why != "" {
					t.Fatalf("Solve(%d, 1) of %v: %s", all, l, why)
				}
			}
		}
	}
}

// drawn: equations, most of which hold of some blocks, so that many agree; some have values of another size, some don't fit.
func drawn(all, size int, r *rng.Rand) []equation.Equation {
	blocks := make([]byte, all*size)
	for i := range blocks {
		blocks[i] = byte(r.Next())
	}
	wrong := r.Below(6)
	l := make([]equation.Equation, r.Below(14))
	for i := range l {
		e := equation.Equation{Of: some(all, r), Value: make([]byte, size)}
		for _, n := range e.Of {
			for k := range size {
				e.Value[k] ^= blocks[n*size+k]
			}
		}
		switch k := r.Below(30); {
		case k < wrong && size > 0:
			e.Value[r.Below(size)] ^= 1 << r.Below(8)
		case k == 11:
			e.Of = append(e.Of, r.Below(all+2)-1)
		case k == 12:
			e.Value = make([]byte, (size+1+r.Below(2))%3)
		}
		l[i] = e
	}
	return l
}

// P17.1, P17.2: many equations of more blocks, in whatever order, against a model.
func TestSolveAgainstModel(t *testing.T) {
	r := rng.New(17, 1)
	yes, no := 0, 0
	for range 6000 {
		all, size := 1+r.Below(7), r.Below(3)
		l := drawn(all, size, r)
		asked := all + r.Below(3) - 1
		want := solved(t, asked, size, l)
		for range 3 {
			if why := fault(Solve(asked, size, l...), want, size); why != "" {
				t.Fatalf("Solve(%d, %d) of %v: %s", asked, size, l, why)
			}
			l = shuffled(l, r)
		}
		if want.Conflict {
			no++
		} else if len(want.Known) > 2 {
			yes++
		}
	}
	if yes < 1000 || no < 1000 {
		t.Errorf("%d agree, %d don't", yes, no)
	}
}

// against: is an answer what layer 16 says of these equations, none of which is to be passed over, and do all closed ones hold of the values?
func against(t *testing.T, name string, all, size int, l []equation.Equation) {
	t.Helper()
	got := Solve(all, size, l...)
	var of [][]int
	for _, e := range l {
		of = append(of, e.Of)
	}
	if !slices.Equal(got.Known, closure.Reach(all, of...)) || got.Conflict == closure.Agrees(all, size, l...) || len(got.Values) != all {
		t.Fatalf("%s: %d are Known, Conflict %v, %d Values", name, len(got.Known), got.Conflict, len(got.Values))
	}
	known := 0
	for n, v := range got.Values {
		if _, has := slices.BinarySearch(got.Known, n); has && len(v) == size {
			known++
		} else if len(v) != 0 {
			t.Fatalf("%s: the value of %d is %x", name, n, v)
		}
	}
	if known != len(got.Known) {
		t.Errorf("%s: %d Known ones of %d bytes", name, known, size)
	}
	for i, e := range l {
		if !got.Conflict && closure.Closed(got.Known, e.Of) && !e.Holds(got.Values...) {
			t.Fatalf("%s: the equation %d doesn't hold", name, i)
		}
	}
}

// P17.1, P17.2: against layer 16, equations of many blocks, of few numbers each.
func TestAgainstClosure(t *testing.T) {
	r := rng.New(17, 2)
	for round := range 40 {
		all := 1 + r.Below(600)
		blocks := make([]byte, all)
		for i := range blocks {
			blocks[i] = byte(r.Next())
		}
		var l []equation.Equation
		for range all * (round % 5) / 2 {
			var of []int
			for range 1 + r.Below(4) {
				of = append(of, r.Below(all))
			}
			of = equation.Odd(of...)
			value := byte(0)
			for _, n := range of {
				value ^= blocks[n]
			}
			l = append(l, equation.Equation{Of: of, Value: []byte{value}})
		}
		against(t, fmt.Sprint("round ", round), all, 1, l)
		if len(l) > 0 {
			l[r.Below(len(l))].Value[0] ^= 4
			against(t, fmt.Sprint("round ", round, ", turned"), all, 1, l)
		}
	}
}

// P17.1, P17.2: chains of many blocks, from either end and in any order, and equations of many blocks.
func TestSolveOfMany(t *testing.T) {
	const all = 1 << 17
	r := rng.New(17, 3)
	blocks := make([]byte, all)
	whole := equation.Equation{Value: make([]byte, 1)}
	var chain, ones, star []equation.Equation
	for n := range all {
		blocks[n] = byte(r.Next())
		whole.Of = append(whole.Of, n)
		whole.Value[0] ^= blocks[n]
		ones = append(ones, equation.Equation{Of: []int{n}, Value: []byte{blocks[n]}})
	}
	for n := range all - 1 {
		chain = append(chain, equation.Equation{Of: []int{n, n + 1}, Value: []byte{blocks[n] ^ blocks[n+1]}})
		star = append(star, equation.Equation{Of: []int{n, all - 1}, Value: []byte{blocks[n] ^ blocks[all-1]}})
	}
	chain = append(chain, ones[0])
	rising := slices.Clone(chain)
	slices.Reverse(rising)
	for name, l := range map[string][]equation.Equation{
		"a chain, falling":  chain,
		"a chain, rising":   rising,
		"a chain, shuffled": shuffled(chain, r),
		"the last of many":  append(slices.Clone(ones[:all-1]), whole),
		"a star":            append(star, ones[5]),
	} {
		got := Solve(all, 1, l...)
		if got.Conflict || !slices.Equal(got.Known, whole.Of) || !bytes.Equal(bytes.Join(got.Values, nil), blocks) {
			t.Errorf("%s: %d are Known, Conflict %v", name, len(got.Known), got.Conflict)
		}
		if !Solve(all, 1, append(l, equation.Equation{Of: []int{7}, Value: []byte{blocks[7] ^ 1}})...).Conflict {
			t.Errorf("%s, and one that doesn't hold: no Conflict", name)
		}
	}
	if got := Solve(all, 1, chain[:all-1]...); len(got.Known) != 0 || len(bytes.Join(got.Values, nil)) != 0 || got.Conflict {
		t.Errorf("a chain without a head: %d are Known", len(got.Known))
	}
	against(t, "two of many", all, 1, append(ones[2:], whole))
}

// P17.1, P17.2: the equations of a code are solved: the blocks of an object.
func TestSolveOfACode(t *testing.T) {
	for _, p := range []api.Params{
		{N: 1, B: 3, Q: 1, Eps: 1000, F: 2},
		{N: 40, B: 2, Q: 3, Eps: 200, F: 60},
		{N: 700, B: 5, Q: 3, Eps: 50, F: 300},
	} {
		const session = 99
		object := make([]byte, params.Most(p))
		for i := range object {
			object[i] = byte(i*i + 3)
		}
		blocks, errno := compose.Blocks(p, session, object)
		g, _ := outer.New(p, session)
		s, _ := inner.New(p, session)
		if errno != api.OK {
			t.Fatal("compose.Blocks", p, errno)
		}
		var l []equation.Equation
		for i := range g.Auxiliary() {
			l = append(l, equation.Equation{Of: g.Equation(i), Value: make([]byte, p.B)})
		}
		for id := range uint64(4*p.N + 20) {
			of := s.Blocks(id)
			value, _ := compose.Check(p.B, blocks, of...)
			l = append(l, equation.Equation{Of: of, Value: value})
		}
		got := Solve(len(blocks), p.B, l...)
		if got.Conflict || !slices.EqualFunc(got.Values, blocks, bytes.Equal) || len(got.Known) != len(blocks) {
			t.Errorf("%v: %d of %d are Known, Conflict %v", p, len(got.Known), len(blocks), got.Conflict)
		}
		for _, few := range []int{0, 1, len(l) / 4, len(l) / 2} {
			against(t, fmt.Sprint(p, few), len(blocks), p.B, l[:few])
		}
		l[len(l)-1].Value[p.B-1] ^= 1
		against(t, fmt.Sprint(p, " turned"), len(blocks), p.B, l)
	}
}

// P17.1: the most blocks, and the greatest size.
func TestTheGreatest(t *testing.T) {
	got := Solve(most, 1, eq("\x01", most-1), eq("\x03", 0, most-1), eq("a", most))
	if !slices.Equal(got.Known, []int{0, most - 1}) || got.Conflict || len(got.Values) != most {
		t.Fatalf("most blocks: Known %v, %d Values, Conflict %v", got.Known, len(got.Values), got.Conflict)
	}
	if string(got.Values[0]) != "\x02" || string(got.Values[most-1]) != "\x01" {
		t.Errorf("most blocks: %x and %x", got.Values[0], got.Values[most-1])
	}
	a, b := make([]byte, most), make([]byte, most)
	a[0], a[most-1], b[most-1] = 1, 2, 4
	of := func(value []byte, of ...int) equation.Equation { return equation.Equation{Of: of, Value: value} }
	got = Solve(2, most, of(a, 0), of(b, 0, 1), of(b[1:], 1))
	want := bytes.Clone(a)
	want[most-1] = 6
	if got.Conflict || !bytes.Equal(got.Values[0], a) || !bytes.Equal(got.Values[1], want) {
		t.Error("the greatest size")
	}
	if !Solve(2, most, of(a, 0), of(b, 0, 1), of(a, 1)).Conflict {
		t.Error("the greatest size: no Conflict")
	}
}

// P2: what is handed in stays as it was, and so does its spare room.
func TestNothingIsChanged(t *testing.T) {
	room := []int{0, 1, 2, 77, 78}
	value := append(make([]byte, 0, 4), 1)
	l := eqs(
		equation.Equation{Of: room[:3], Value: value},
		equation.Equation{Of: room[:1], Value: value},
		equation.Equation{Of: room[:2], Value: value},
		equation.Equation{Of: room[:4], Value: value},
		equation.Equation{Of: []int{2, 1}, Value: value},
		equation.Equation{Of: room[1:2], Value: value[:0]},
	)
	before := slices.Clone(l)
	for range 2 {
		if why := fault(Solve(3, 1, l...), values("\x01", "\x00", "\x00"), 1); why != "" {
			t.Error(why)
		}
		Solve(3, 0, l...)
		Solve(3, 2, l...)
	}
	if !slices.Equal(room, []int{0, 1, 2, 77, 78}) || !bytes.Equal(value[:4], []byte{1, 0, 0, 0}) {
		t.Errorf("changed: %v, %v", room, value[:4])
	}
	if !slices.EqualFunc(l, before, equation.Same) {
		t.Errorf("equations are changed: %v", l)
	}
}

// P2: what is answered is new memory: it shares none with an argument, with another answer, or with another value of its own.
func TestNewMemory(t *testing.T) {
	l := eqs(eq("a", 0), eq("a", 1), eq("\x00", 1, 2), eq("a", 2))
	want := values("a", "a", "a", "")
	one, two := Solve(4, 1, l...), Solve(4, 1, l...)
	for n := range 3 {
		v := one.Values[n]
		for i := range v[:cap(v)] {
			v[:cap(v)][i] = byte(n)
		}
		if got := one.Values[n+1]; n < 2 && string(got) != "a" {
			t.Errorf("the value of %d is the one of %d", n+1, n)
		}
	}
	clear(one.Known[:cap(one.Known)])
	clear(one.Values[:cap(one.Values)])
	for _, got := range []Result{two, Solve(4, 1, l...)} {
		if why := fault(got, want, 1); why != "" {
			t.Errorf("another answer: %s", why)
		}
	}
	for _, e := range l {
		clear(e.Of)
		clear(e.Value)
	}
	clear(l)
	if why := fault(two, want, 1); why != "" {
		t.Errorf("an argument is kept: %s", why)
	}
}

// P1: calls at all arguments end.
func TestCallsAtAllArguments(t *testing.T) {
	numbers := []int{math.MinInt, -1 << 32, -1, 0, 1, 2, 3, 1 << 20, most + 1, 1 << 32, math.MaxInt - 1, math.MaxInt}
	texts := []string{"", "\x00", "\x01", "ab"}
	for _, n := range numbers {
		for _, m := range numbers {
			var l []equation.Equation
			for _, of := range [][]int{nil, {}, {n}, {m}, {n, m}, {m, n}, {n, n}, {0, n, m}, numbers} {
				l = append(l, equation.Equation{Of: of})
				for _, v := range texts {
					l = append(l, eq(v, of...))
				}
			}
			Solve(n, m, l...)
			Solve(n, m)
			Solve(n, 1, l...)
			Solve(m, 0, l...)
		}
	}
	great := make([]byte, most+1)
	Solve(3, len(great), equation.Equation{Of: []int{0}, Value: great}, equation.Equation{Of: []int{0, 1}, Value: great})
}
