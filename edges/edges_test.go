package edges

import (
	"math"
	"slices"
	"testing"

	"almonry/rng"
)

// model is a graph by the words of the chapter alone: equations in the order in which they came, each with its blocks, rising.
type model struct {
	eqs    []int
	blocks [][]int
	most   int
}

// at: where an equation stands; -1: nowhere.
func (m *model) at(eq int) int { return slices.Index(m.eqs, eq) }

func (m *model) edges() int {
	n := 0
	for _, l := range m.blocks {
		n += len(l)
	}
	return n
}

func (m *model) add(eq int, l []int) bool {
	if m.at(eq) >= 0 || len(l) == 0 {
		return false
	}
	l = slices.Clone(l)
	slices.Sort(l)
	m.eqs = append(m.eqs, eq)
	m.blocks = append(m.blocks, slices.Compact(l))
	m.most = max(m.most, m.edges())
	return true
}

func (m *model) drop(eq int) bool {
	at := m.at(eq)
	if at < 0 {
		return false
	}
	m.eqs = slices.Delete(m.eqs, at, at+1)
	m.blocks = slices.Delete(m.blocks, at, at+1)
	return true
}

func (m *model) rest(eq int) []int {
	if at := m.at(eq); at >= 0 {
		return m.blocks[at]
	}
	return nil
}

func (m *model) of(b int) []int {
	var l []int
	for at, eq := range m.eqs {
		if slices.Contains(m.blocks[at], b) {
			l = append(l, eq)
		}
	}
	slices.Sort(l)
	return l
}

func (m *model) take(b int) []int {
	had := m.of(b)
	for at, l := range m.blocks {
		m.blocks[at] = slices.DeleteFunc(l, func(other int) bool { return other == b })
	}
	return had
}

// near: numbers to ask for: those from -3 to 30, and some far away.
func near() []int {
	l := []int{math.MinInt, -1 << 40, 1 << 40, math.MaxInt}
	for n := -3; n <= 30; n++ {
		l = append(l, n)
	}
	return l
}

// holds: does the graph say what the model says?
func holds(t *testing.T, g *Graph, m *model) {
	t.Helper()
	if g.Equations() != len(m.eqs) || g.Edges() != m.edges() || g.Most() != m.most {
		t.Fatalf("Equations %d, Edges %d, Most %d, want %d, %d, %d", g.Equations(), g.Edges(), g.Most(), len(m.eqs), m.edges(), m.most)
	}
	for _, n := range near() {
		if g.Has(n) != (m.at(n) >= 0) {
			t.Fatalf("Has(%d) %v", n, g.Has(n))
		}
		if got, want := g.Rest(n), m.rest(n); !slices.Equal(got, want) {
			t.Fatalf("Rest(%d) %v, want %v", n, got, want)
		}
		if got, want := g.Of(n), m.of(n); !slices.Equal(got, want) {
			t.Fatalf("Of(%d) %v, want %v", n, got, want)
		}
	}
}

// both is a graph and its model, to which the same is done.
type both struct {
	g Graph
	m model
}

func (x *both) add(t *testing.T, eq int, l ...int) {
	t.Helper()
	if got, want := x.g.Add(eq, l...), x.m.add(eq, l); got != want {
		t.Fatalf("Add(%d, %v) %v, want %v", eq, l, got, want)
	}
	holds(t, &x.g, &x.m)
}

func (x *both) take(t *testing.T, b int) {
	t.Helper()
	if got, want := x.g.Take(b), x.m.take(b); !slices.Equal(got, want) {
		t.Fatalf("Take(%d) %v, want %v", b, got, want)
	}
	holds(t, &x.g, &x.m)
}

func (x *both) drop(t *testing.T, eq int) {
	t.Helper()
	if got, want := x.g.Drop(eq), x.m.drop(eq); got != want {
		t.Fatalf("Drop(%d) %v, want %v", eq, got, want)
	}
	holds(t, &x.g, &x.m)
}

// P19.1
func TestTheExample(t *testing.T) {
	var g Graph
	if !g.Add(7, 1, 2) {
		t.Error("Add is refused")
	}
	if l := g.Take(1); !slices.Equal(l, []int{7}) {
		t.Errorf("Take(1): %v", l)
	}
	if l := g.Rest(7); !slices.Equal(l, []int{2}) {
		t.Errorf("Rest(7): %v", l)
	}
	holds(t, &g, &model{eqs: []int{7}, blocks: [][]int{{2}}, most: 2})
}

// P19.1, P19.2: the zero one has none; nothing goes from it.
func TestNoneAtFirst(t *testing.T) {
	var x both
	for _, n := range near() {
		x.take(t, n)
		x.drop(t, n)
		x.add(t, n)
	}
	x.add(t, 0, 0)
}

// P19.1: a block that is there twice counts once, wherever it stands.
func TestAddOfTheSameTwice(t *testing.T) {
	var x both
	x.add(t, 1, 4, 4)
	x.add(t, 2, 9, 4, 9, -1, 4, 4)
	if x.g.Edges() != 4 {
		t.Errorf("Edges %d", x.g.Edges())
	}
	x.take(t, 4)
	x.drop(t, 2)
}

// P19.1, and P2: an equation that is there isn't added again, even without blocks, and nothing changes; nor is one of no blocks.
func TestAddRefuses(t *testing.T) {
	var x both
	x.add(t, 3, 1, 2)
	for _, l := range [][]int{{1, 2}, {5}, {1}, {}, nil} {
		if x.g.Add(3, l...) {
			t.Errorf("Add(3, %v) isn't refused", l)
		}
		x.add(t, 3, l...)
	}
	for _, l := range [][]int{{}, nil} {
		if x.g.Add(4, l...) || x.g.Has(4) {
			t.Error("Add of no blocks isn't refused")
		}
	}
	x.take(t, 1)
	x.take(t, 2)
	if x.g.Add(3, 1) || !x.g.Has(3) {
		t.Error("Add of an equation without blocks isn't refused")
	}
	x.add(t, 3, 1)
	x.add(t, 4, 2)
}

// P19.1: Take says whose block it was, rising, in whatever order they came, and says it once.
func TestTake(t *testing.T) {
	var x both
	for _, eq := range []int{9, -2, 5, 30, 0, 12} {
		x.add(t, eq, 8, eq)
	}
	x.add(t, 7, 1)
	if l := x.g.Of(8); !slices.Equal(l, []int{-2, 0, 5, 9, 12, 30}) {
		t.Errorf("Of(8): %v", l)
	}
	x.take(t, 8)
	x.take(t, 8)
	x.take(t, 100)
	x.add(t, 8, 8)
	x.take(t, 8)
	if x.g.Equations() != 8 {
		t.Errorf("Equations %d", x.g.Equations())
	}
}

// P19.1: equations without blocks stay until they are dropped, and may then come again.
func TestEquationsWithoutBlocks(t *testing.T) {
	var x both
	x.add(t, 1, 6)
	x.add(t, 2, 6)
	x.take(t, 6)
	if !x.g.Has(1) || !x.g.Has(2) || x.g.Equations() != 2 || x.g.Edges() != 0 || len(x.g.Rest(1)) != 0 {
		t.Error("equations without blocks don't stay")
	}
	x.drop(t, 1)
	x.drop(t, 1)
	x.add(t, 1, 6, 7)
	x.take(t, 6)
}

// P19.1: what is dropped is in no block's equations any more, while others are.
func TestDrop(t *testing.T) {
	var x both
	x.add(t, 1, 10, 11, 12)
	x.add(t, 2, 11, 12, 13)
	x.drop(t, 3)
	x.drop(t, 1)
	if l := x.g.Take(11); !slices.Equal(l, []int{2}) {
		t.Errorf("Take(11): %v", l)
	}
	x.m.take(11)
	x.drop(t, 1)
	x.drop(t, 2)
	x.take(t, 12)
}

// P19.2: Most stays while Edges falls, and rises only above what it was.
func TestMost(t *testing.T) {
	var g Graph
	steps := []struct {
		do          func()
		edges, most int
	}{
		{func() { g.Add(1, 1, 2, 3) }, 3, 3},
		{func() { g.Add(2, 1, 2) }, 5, 5},
		{func() { g.Take(1) }, 3, 5},
		{func() { g.Add(3, 5, 5, 5) }, 4, 5},
		{func() { g.Drop(1) }, 2, 5},
		{func() { g.Add(4, 1, 2, 3) }, 5, 5},
		{func() { g.Add(5, 1) }, 6, 6},
		{func() { g.Drop(5); g.Drop(5); g.Take(77) }, 5, 6},
		{func() { g.Add(5) }, 5, 6},
		{func() { g.Add(4, 8, 9, 10, 11) }, 5, 6},
	}
	for i, s := range steps {
		s.do()
		if g.Edges() != s.edges || g.Most() != s.most {
			t.Errorf("step %d: Edges %d, Most %d, want %d, %d", i, g.Edges(), g.Most(), s.edges, s.most)
		}
	}
}

// P19.1, P19.2: many calls of all kinds, held against the model after each. Equations and blocks have the same numbers, and nothing to do with each other.
func TestAgainstTheModel(t *testing.T) {
	r := rng.New(19, 1)
	for round := range 40 {
		var x both
		many := 4 + round%3*8
		for range 100 {
			n := r.Below(many) - 2
			switch r.Below(6) {
			case 0, 1:
				x.take(t, n)
			case 2:
				x.drop(t, n)
			default:
				l := make([]int, r.Below(6))
				for i := range l {
					l[i] = r.Below(many) - 2
				}
				x.add(t, n, l...)
			}
		}
	}
}

// P19.1, P19.2: many equations of many blocks.
func TestOfMany(t *testing.T) {
	const eqs, each = 20000, 20
	var g Graph
	for eq := range eqs {
		l := make([]int, each)
		for i := range l {
			// One of them is in all equations, each of the others in one of them alone.
			l[i] = (eq*each + i) * min(i, 1)
		}
		if !g.Add(-eq, l...) {
			t.Fatalf("Add(%d) is refused", -eq)
		}
	}
	if g.Edges() != eqs*each || g.Equations() != eqs {
		t.Errorf("Edges %d, Equations %d", g.Edges(), g.Equations())
	}
	if l := g.Take(0); len(l) != eqs || l[0] != 1-eqs || !slices.IsSorted(l) {
		t.Errorf("Take(0): %d of them", len(l))
	}
	for eq := range eqs {
		if l := g.Take(eq*each + 1); !slices.Equal(l, []int{-eq}) {
			t.Fatalf("Take(%d): %v", eq*each+1, l)
		}
		if l := g.Rest(-eq); len(l) != each-2 || l[0] != eq*each+2 || !g.Drop(-eq) {
			t.Fatalf("Rest(%d): %v", -eq, l)
		}
	}
	if g.Edges() != 0 || g.Equations() != 0 || g.Most() != eqs*each {
		t.Errorf("Edges %d, Equations %d, Most %d", g.Edges(), g.Equations(), g.Most())
	}
	// What is gone takes no room.
	if len(g.equations) != 0 || len(g.blocks) != 0 {
		t.Errorf("%d blocks and %d equations are kept", len(g.equations), len(g.blocks))
	}
}

// P2: what is handed in is neither changed nor kept.
func TestWhatIsHandedIn(t *testing.T) {
	room := []int{9, 5, 9, 6, 77, 78}
	var x both
	x.add(t, 1, room[:4]...)
	if !slices.Equal(room, []int{9, 5, 9, 6, 77, 78}) {
		t.Errorf("changed: %v", room)
	}
	clear(room)
	holds(t, &x.g, &x.m)
}

// P2: what is answered is new memory.
func TestWhatIsAnswered(t *testing.T) {
	var x both
	x.add(t, 1, 4, 5)
	x.add(t, 2, 4, 6)
	answers := func() [][]int { return [][]int{x.g.Rest(1), x.g.Rest(1), x.g.Of(4), x.g.Of(4)} }
	want := [][]int{{4, 5}, {4, 5}, {1, 2}, {1, 2}}
	for changed := range want {
		got := answers()
		got[changed][0] = 99
		_ = append(got[changed], 99)
		for i, l := range got {
			if i != changed && !slices.Equal(l, want[i]) {
				t.Errorf("the answer %d is changed by the answer %d: %v", i, changed, l)
			}
		}
		holds(t, &x.g, &x.m)
	}
	had := x.g.Take(4)
	x.m.take(4)
	clear(had)
	holds(t, &x.g, &x.m)
}

// P2: graphs don't know each other.
func TestGraphsAreApart(t *testing.T) {
	var a, b both
	a.add(t, 1, 2, 3)
	b.add(t, 1, 3)
	b.take(t, 3)
	b.drop(t, 1)
	holds(t, &a.g, &a.m)
	a.take(t, 3)
	holds(t, &b.g, &b.m)
}

// P1: calls at all arguments end. All numbers may be any.
func TestCallsAtAllArguments(t *testing.T) {
	numbers := []int{math.MinInt, math.MinInt + 1, -1 << 32, -1, 0, 1, 1 << 20, 1 << 32, math.MaxInt - 1, math.MaxInt}
	var x both
	for _, n := range numbers {
		x.take(t, n)
		x.drop(t, n)
		x.add(t, n, numbers...)
		x.add(t, n)
	}
	if !slices.Equal(x.g.Rest(math.MaxInt), numbers) || !slices.Equal(x.g.Of(math.MinInt), numbers) {
		t.Error("Rest, Of of all numbers")
	}
	for i, n := range numbers {
		if i%2 == 0 {
			x.take(t, n)
		} else {
			x.drop(t, n)
		}
	}
}
