package equation

import (
	"bytes"
	"errors"
	"math"
	"slices"
	"testing"

	"almonry/rng"
)

// eq: an equation of some blocks.
func eq(value string, of ...int) Equation { return Equation{Of: of, Value: []byte(value)} }

// mixed: so many bytes, as if by chance.
func mixed(many int, r *rng.Rand) []byte {
	all := make([]byte, many)
	for i := range all {
		all[i] = byte(r.Next())
	}
	return all
}

// numbers: up to so many numbers below another one, as if by chance, some of them there again and again.
func numbers(most, below int, r *rng.Rand) []int {
	l := make([]int, r.Below(most+1))
	for i := range l {
		l[i] = r.Below(below)
	}
	return l
}

// upon: some blocks, put upon each other.
func upon(size int, blocks ...[]byte) []byte {
	sum := make([]byte, size)
	for _, b := range blocks {
		for k, x := range b {
			sum[k] ^= x
		}
	}
	return sum
}

// odd: what P15.1 tells, by counting each number of all.
func odd(of []int) []int {
	var l []int
	for _, n := range of {
		many := 0
		for _, other := range of {
			if other == n {
				many++
			}
		}
		if many%2 == 1 && !slices.Contains(l, n) {
			l = append(l, n)
		}
	}
	slices.Sort(l)
	return l
}

// roomy: a list with room behind it that is filled, and the whole of it.
func roomy(l []int) (list, whole []int) {
	whole = append(slices.Clone(l), 77, 78, 79)
	return whole[:len(l)], whole
}

// P15.1: the example, and each number once, rising, be it wherever.
func TestOdd(t *testing.T) {
	for _, c := range []struct{ of, want []int }{
		{nil, nil},
		{[]int{}, nil},
		{[]int{0}, []int{0}},
		{[]int{3, 1, 3, 2}, []int{1, 2}},
		{[]int{3, 3}, nil},
		{[]int{3, 3, 3}, []int{3}},
		{[]int{3, 3, 3, 3}, nil},
		{[]int{2, 3, 3, 3, 4}, []int{2, 3, 4}},
		{[]int{2, 3, 3, 2}, nil},
		{[]int{2, 3, 2, 3, 2}, []int{2}},
		{[]int{5, 4, 3, 2, 1, 0}, []int{0, 1, 2, 3, 4, 5}},
		{[]int{1, -1, 0}, []int{-1, 0, 1}},
		{[]int{-5, 5, -5, 5, -5}, []int{-5}},
		{[]int{math.MaxInt, math.MinInt, math.MaxInt - 1, math.MinInt + 1}, []int{math.MinInt, math.MinInt + 1, math.MaxInt - 1, math.MaxInt}},
		{[]int{math.MaxInt, math.MinInt, math.MaxInt}, []int{math.MinInt}},
		{[]int{1 << 32, 0, 1 << 33, 1 << 32}, []int{0, 1 << 33}},
	} {
		if got := Odd(c.of...); !slices.Equal(got, c.want) {
			t.Errorf("Odd of %v: %v, want %v", c.of, got, c.want)
		}
	}
}

// P15.1: all lists of up to six numbers, and longer ones, against a model.
func TestOddAgainstModel(t *testing.T) {
	var try func(of []int, more int)
	try = func(of []int, more int) {
		if got, want := Odd(of...), odd(of); !slices.Equal(got, want) {
			t.Fatalf("Odd of %v: %v, want %v", of, got, want)
		}
		if more > 0 {
			for n := -1; n < 3; n++ {
				try(append(of, n), more-1)
			}
		}
	}
	try(nil, 6)
	r := rng.New(15, 1)
	for range 500 {
		of := numbers(100, 1+r.Below(80), r)
		if got, want := Odd(of...), odd(of); !slices.Equal(got, want) {
			t.Fatalf("Odd of %v: %v, want %v", of, got, want)
		}
	}
}

// P15.1: many numbers, each there as often as its remainder says.
func TestOddOfMany(t *testing.T) {
	const most = 1 << 18
	var of, want []int
	for n := most - 1; n >= 0; n-- {
		for range n % 4 {
			of = append(of, n)
		}
	}
	for n := range most {
		if n%2 == 1 {
			want = append(want, n)
		}
	}
	if !slices.Equal(Odd(of...), want) {
		t.Error("Odd of falling numbers: others")
	}
	slices.Reverse(of)
	if !slices.Equal(Odd(of...), want) {
		t.Error("Odd of rising numbers: others")
	}
}

// P15.1: equations, put upon each other.
func TestAdd(t *testing.T) {
	for _, c := range []struct {
		size int
		l    []Equation
		want Equation
	}{
		{0, nil, eq("")},
		{3, nil, eq("\x00\x00\x00")},
		{0, []Equation{{}}, eq("")},
		{0, []Equation{eq("", 4, 2), eq("", 2)}, eq("", 4)},
		{1, []Equation{eq("\x05", 3, 1), eq("\x06", 3, 2)}, eq("\x03", 1, 2)},
		{2, []Equation{eq("\x01\x02", 1), eq("\x03\x03", 1)}, eq("\x02\x01")},
		{2, []Equation{eq("\x01\x02", 1)}, eq("\x01\x02", 1)},
		{2, []Equation{eq("\x01\x02", 3, 1, 2, 1)}, eq("\x01\x02", 2, 3)},
		{1, []Equation{eq("\x01", 1), eq("\x02", 1), eq("\x04", 1)}, eq("\x07", 1)},
		{1, []Equation{eq("\x01", 1, 2), eq("\x01", 2, 1)}, eq("\x00")},
		{1, []Equation{eq("\x01", -7, math.MaxInt), eq("\x80", math.MinInt)}, eq("\x81", math.MinInt, -7, math.MaxInt)},
		{1, []Equation{eq("\x01"), eq("\x02", 9), eq("\x04")}, eq("\x07", 9)},
	} {
		got, ok := Add(c.size, c.l...)
		if !ok || !slices.Equal(got.Of, c.want.Of) || !bytes.Equal(got.Value, c.want.Value) {
			t.Errorf("Add(%d) of %v: %v, %v, want %v", c.size, c.l, got, ok, c.want)
		}
	}
}

// P15.1: against a model; and what holds of some blocks holds, put upon each other.
func TestAddAgainstModel(t *testing.T) {
	r := rng.New(15, 2)
	for range 400 {
		size := r.Below(5)
		blocks := make([][]byte, 1+r.Below(9))
		for i := range blocks {
			blocks[i] = mixed(size, r)
		}
		var l []Equation
		var all []int
		value := make([]byte, size)
		for range r.Below(6) {
			of := numbers(8, len(blocks), r)
			e := Equation{Of: of, Value: make([]byte, size)}
			for _, i := range of {
				e.Value = upon(size, e.Value, blocks[i])
			}
			if !e.Holds(blocks...) {
				t.Fatalf("%v doesn't hold of %v", e, blocks)
			}
			l = append(l, e)
			all = append(all, of...)
			value = upon(size, value, e.Value)
		}
		got, ok := Add(size, l...)
		if want := odd(all); !ok || !slices.Equal(got.Of, want) || !bytes.Equal(got.Value, value) {
			t.Fatalf("Add(%d) of %v: %v, %v, want %v, %v", size, l, got, ok, want, value)
		}
		if !got.Holds(blocks...) {
			t.Fatalf("%v, of %v, doesn't hold of %v", got, l, blocks)
		}
	}
}

// P15.1: values of another size, wherever they stand, and sizes below 0.
func TestAddRefuses(t *testing.T) {
	good := eq("\x01\x02", 1)
	refused := func(size int, l ...Equation) {
		t.Helper()
		if got, ok := Add(size, l...); ok || got.Of != nil || got.Value != nil {
			t.Errorf("Add(%d) of %v: %v, %v", size, l, got, ok)
		}
	}
	for _, wrong := range []Equation{{}, eq("", 1), eq("\x00", 1), eq("\x00\x00\x00", 1), {Of: []int{1}, Value: make([]byte, 1, 2)}} {
		refused(2, wrong)
		refused(2, wrong, good)
		refused(2, good, wrong)
		refused(2, good, wrong, good)
		refused(2, wrong, wrong)
	}
	refused(1, good)
	refused(3, good)
	refused(0, good)
	for _, size := range []int{-1, -2, -1 << 32, math.MinInt} {
		refused(size)
		refused(size, Equation{})
		refused(size, good)
	}
}

// P15.1: values as long as layer 3 puts upon each other.
func TestAddOfGreatValues(t *testing.T) {
	const size = 1 << 24
	a, b := make([]byte, size), make([]byte, size)
	a[0], a[size-1], b[size-1] = 1, 2, 3
	got, ok := Add(size, Equation{Of: []int{1}, Value: a}, Equation{Of: []int{2}, Value: b})
	if !ok || !slices.Equal(got.Of, []int{1, 2}) || len(got.Value) != size || got.Value[0] != 1 || got.Value[size-1] != 1 {
		t.Error("Add of great values: others")
	}
}

// P15.2: the same numbers, in the same order, and the same bytes.
func TestSame(t *testing.T) {
	all := []Equation{
		{},
		eq("\x00"),
		eq("\x01"),
		eq("\x01\x00"),
		eq("\x00\x01"),
		eq("", 0),
		eq("\x01", 0),
		eq("\x01", 0, 1),
		eq("\x01", 1, 0),
		eq("\x01", 1),
		eq("\x01", 1, 1),
		eq("\x01", 1, 2),
		eq("\x02", 1, 2),
		eq("\x01", 1, 2, 3),
		eq("\x01", -1),
		eq("\x01", math.MinInt),
		eq("\x01", math.MaxInt),
	}
	for i, a := range all {
		for j, b := range all {
			other := Equation{Of: append(make([]int, 0, 9), b.Of...), Value: append(make([]byte, 0, 9), b.Value...)}
			if Same(a, other) != (i == j) {
				t.Errorf("Same(%v, %v): %v", a, other, i != j)
			}
		}
	}
	if !Same(Equation{}, Equation{Of: []int{}, Value: []byte{}}) || !Same(Equation{Of: []int{}, Value: []byte{}}, Equation{}) {
		t.Error("Same tells none from none")
	}
}

// P15.2: an equation holds of its blocks alone.
func TestHolds(t *testing.T) {
	blocks := [][]byte{{1, 2}, {3, 3}, {128, 255}, {0, 0}, {9}, nil}
	for _, c := range []struct {
		e    Equation
		want bool
	}{
		{eq("\x01\x02", 0), true},
		{eq("\x01\x03", 0), false},
		{eq("\x00\x02", 0), false},
		{eq("\x02\x01", 0, 1), true},
		{eq("\x02\x01", 1, 0), true},
		{eq("\x02\x02", 1, 0), false},
		{eq("\x82\xfe", 2, 1, 0), true},
		{eq("\x82\xfe", 2, 1, 0, 3), true},
		{eq("\x00\x00", 3), true},
		{eq("\x00\x01", 3), false},
		{eq("\x00\x00", 0, 0), true},
		{eq("\x01\x02", 0, 0), false},
		{eq("\x01\x02", 0, 0, 0), true},
		{eq("\x01\x02", 1, 0, 1), true},
		{eq("\x00\x00", 0, 1, 0, 1), true},
		{eq("\x09", 4), true},
		{eq("", 5), true},
		{eq("", 5, 5, 5), true},
		// Of no blocks.
		{Equation{}, true},
		{eq("\x00"), true},
		{eq("\x00\x00"), true},
		{eq("\x00\x01"), false},
		{eq("\x01"), false},
	} {
		if got := c.e.Holds(blocks...); got != c.want {
			t.Errorf("%v holds: %v", c.e, got)
		}
	}
}

// P15.2: blocks that aren't there, or have another number of bytes than the value, wherever they stand, and even where they would be nothing, put twice; of others it is of no matter.
func TestHoldsOfWhatIsNot(t *testing.T) {
	blocks := [][]byte{{0, 0}, {0}, nil, {}, {0, 0, 0}, {0, 0}, make([]byte, 1, 2)}
	for _, i := range []int{-1, -2, -7, 7, 8, 1 << 32, -1 << 32, math.MinInt, math.MaxInt, 1, 2, 3, 4, 6} {
		for _, of := range [][]int{{i}, {i, i}, {0, i}, {i, 0}, {0, i, 5}, {i, 0, i}, {0, 5, i, i}} {
			if eq("\x00\x00", of...).Holds(blocks...) {
				t.Errorf("of %v: holds", of)
			}
		}
	}
	if !eq("\x00\x00", 0, 5).Holds(blocks...) {
		t.Error("other blocks are of matter")
	}
	for _, size := range []int{0, 1, 3} {
		if (Equation{Of: []int{0}, Value: make([]byte, size)}).Holds(blocks...) {
			t.Errorf("a value of %d bytes: holds", size)
		}
	}
	for _, i := range []int{-1, 0, 1, math.MinInt, math.MaxInt} {
		if eq("", i).Holds() || eq("", i, i).Holds() {
			t.Errorf("of %d of no blocks: holds", i)
		}
	}
}

// P15.2: against a model; and no other value is one.
func TestHoldsAgainstModel(t *testing.T) {
	r := rng.New(15, 3)
	for range 400 {
		size := 1 + r.Below(5)
		blocks := make([][]byte, 1+r.Below(9))
		for i := range blocks {
			blocks[i] = mixed(size, r)
		}
		e := Equation{Of: numbers(12, len(blocks), r)}
		e.Value = make([]byte, size)
		for _, i := range e.Of {
			e.Value = upon(size, e.Value, blocks[i])
		}
		if !e.Holds(blocks...) {
			t.Fatalf("%v doesn't hold of %v", e, blocks)
		}
		bit := r.Below(8 * size)
		e.Value[bit/8] ^= 1 << (bit % 8)
		if e.Holds(blocks...) {
			t.Fatalf("%v holds of %v", e, blocks)
		}
	}
}

// P15.2: blocks longer than layer 3 promises a Sum of, and a block that is there very often.
func TestHoldsOfMuch(t *testing.T) {
	const size = 1<<24 + 1
	a, b := make([]byte, size), make([]byte, size)
	a[0], b[size-1] = 1, 2
	e := Equation{Of: []int{0, 1}, Value: make([]byte, size)}
	e.Value[0], e.Value[size-1] = 1, 2
	if !e.Holds(a, b) || e.Holds(a, a) {
		t.Error("great blocks")
	}
	often := Equation{Of: make([]int, 1<<18+1), Value: mixed(1<<18, rng.New(3))}
	if !often.Holds(often.Value) {
		t.Error("a block that is there an odd number of times")
	}
	often.Of = often.Of[1:]
	if often.Holds(often.Value) {
		t.Error("a block that is there an even number of times")
	}
}

// P15.2: which numbers known doesn't say true of, in their order, as often as they are there.
func TestLeft(t *testing.T) {
	even := func(i int) bool { return i%2 == 0 }
	all := func(int) bool { return true }
	none := func(int) bool { return false }
	for _, c := range []struct {
		known    func(int) bool
		of, want []int
	}{
		{even, nil, nil},
		{all, nil, nil},
		{none, nil, nil},
		{all, []int{1, 2, 3}, nil},
		{none, []int{1, 2, 3}, []int{1, 2, 3}},
		{none, []int{3, 1, 2, 1, -4}, []int{3, 1, 2, 1, -4}},
		{even, []int{1, 2, 3}, []int{1, 3}},
		{even, []int{4, 7, 2, 5, 6, 7}, []int{7, 5, 7}},
		{even, []int{math.MaxInt, math.MinInt, -1}, []int{math.MaxInt, -1}},
		{func(i int) bool { return i == 2 }, []int{4, 2, 7}, []int{4, 7}},
		{func(i int) bool { return i < 0 }, []int{-1, 0, math.MinInt, math.MaxInt}, []int{0, math.MaxInt}},
	} {
		if got := eq("x", c.of...).Left(c.known); !slices.Equal(got, c.want) {
			t.Errorf("Left of %v: %v, want %v", c.of, got, c.want)
		}
	}
	if got := (Equation{Of: []int{1, 2}}).Left(even); !slices.Equal(got, []int{1}) {
		t.Errorf("Left without a value: %v", got)
	}
}

// P1: what doesn't say true, because there is no such function, or because it panics.
func TestLeftOfWhatPanics(t *testing.T) {
	of := []int{4, 2, 7}
	if got := eq("x", of...).Left(nil); !slices.Equal(got, of) {
		t.Errorf("Left of a nil function: %v", got)
	}
	if got := eq("x").Left(nil); len(got) != 0 {
		t.Errorf("Left of a nil function and no numbers: %v", got)
	}
	var nothing []int
	for name, panics := range map[string]func(){
		"a text":   func() { panic("known") },
		"nil":      func() { panic(nil) },
		"an error": func() { panic(errors.New("known")) },
		"a place":  func() { nothing[len(nothing)]++ },
	} {
		known := func(i int) bool {
			if i == 2 {
				panics()
			}
			return i != 7
		}
		if got := eq("x", of...).Left(known); !slices.Equal(got, []int{2, 7}) {
			t.Errorf("Left of what panics by %s: %v", name, got)
		}
	}
}

// P2: what is handed in stays as it was, and so does its spare room.
func TestNothingIsChanged(t *testing.T) {
	start := []int{5, 3, 5, 1, 4}
	of, whole := roomy(start)
	value := append(make([]byte, 0, 4), 1, 2)
	e := Equation{Of: of, Value: value}
	l := []Equation{e, eq("\x04\x04", 9, 8), e}
	blocks := [][]byte{{1, 1}, {2, 2}, {3, 3}, {4, 4}, {5, 5}, {6, 6}}
	Odd(of...)
	Add(2, l...)
	Add(2, l[:1]...)
	Add(3, l...)
	Same(e, l[1])
	e.Holds(blocks...)
	e.Holds(blocks[:4]...)
	e.Left(func(i int) bool { return i == 3 })
	e.Left(nil)
	if !slices.Equal(whole, []int{5, 3, 5, 1, 4, 77, 78, 79}) {
		t.Errorf("numbers are changed: %v", whole)
	}
	if !bytes.Equal(value[:4], []byte{1, 2, 0, 0}) {
		t.Errorf("a value is changed: %v", value[:4])
	}
	if !Same(l[0], eq("\x01\x02", start...)) || !Same(l[1], eq("\x04\x04", 9, 8)) || !Same(l[2], l[0]) {
		t.Errorf("equations are changed: %v", l)
	}
	for i, b := range blocks {
		if !bytes.Equal(b, []byte{byte(i + 1), byte(i + 1)}) {
			t.Errorf("block %d is changed: %v", i, b)
		}
	}
}

// P2: what is answered shares memory with nothing, spare room and all.
func TestAnswersAreNewMemory(t *testing.T) {
	of := []int{1, 2, 3}
	value := []byte{1, 2}
	e := Equation{Of: of, Value: value}
	none := func(int) bool { return false }
	odd, left := Odd(of...), e.Left(none)
	sum, _ := Add(2, e)
	for _, l := range [][]int{odd, left, sum.Of, Odd(of...), e.Left(none)} {
		l = l[:cap(l)]
		for i := range l {
			l[i] = 99
		}
	}
	clear(sum.Value[:cap(sum.Value)])
	if !Same(e, eq("\x01\x02", 1, 2, 3)) {
		t.Errorf("an answer shares memory with an argument: %v", e)
	}
	again, _ := Add(2, e)
	if !slices.Equal(Odd(of...), of) || !slices.Equal(e.Left(none), of) || !Same(again, e) {
		t.Error("what was answered before makes a difference")
	}
	odd, left = Odd(of...), e.Left(none)
	clear(of)
	clear(value)
	if want := []int{1, 2, 3}; !slices.Equal(odd, want) || !slices.Equal(left, want) || !Same(again, eq("\x01\x02", want...)) {
		t.Error("an argument shares memory with an answer")
	}
}

// P1: calls at all arguments end.
func TestCallsAtAllArguments(t *testing.T) {
	numbers := []int{math.MinInt, -1 << 32, -1, 0, 1, 2, 3, 1 << 20, 1 << 24, 1<<24 + 1, 1 << 32, math.MaxInt}
	values := [][]byte{nil, {}, {0}, {1}, {1, 2}}
	for _, n := range numbers {
		for _, m := range numbers {
			Odd(n, m, n)
			for _, v := range values {
				e := Equation{Of: []int{n, m, 0, m}, Value: v}
				Same(e, Equation{Of: []int{m, n}})
				e.Holds()
				e.Holds(values...)
				e.Left(nil)
				e.Left(func(i int) bool { return i == m })
			}
		}
		for _, v := range values {
			Add(n, Equation{Of: numbers, Value: v})
			Add(n, Equation{Of: numbers, Value: v}, Equation{})
		}
		Add(n)
	}
}
