package ripple

import (
	"math"
	"slices"
	"testing"

	"almonry/rng"
)

// model is a queue by the words of the chapter alone: all numbers that ever were in it, in order, and how many of them aren't in the row any more.
type model struct {
	all  []int
	gone int
}

func (m *model) push(l []int) int {
	before := len(m.all)
	for _, x := range l {
		if !slices.Contains(m.all, x) {
			m.all = append(m.all, x)
		}
	}
	return len(m.all) - before
}

func (m *model) pop() (int, bool) {
	if m.gone == len(m.all) {
		return 0, false
	}
	m.gone++
	return m.all[m.gone-1], true
}

// holds: is the queue as it should be, of all numbers from -3 to 30 and of those that were pushed?
func holds(t *testing.T, q *Queue, m *model) {
	t.Helper()
	if q.Len() != len(m.all)-m.gone {
		t.Fatalf("Len %d of %v, of which %d are gone", q.Len(), m.all, m.gone)
	}
	for x := -3; x <= 30; x++ {
		if q.Ever(x) != slices.Contains(m.all, x) {
			t.Fatalf("Ever(%d) %v of %v", x, q.Ever(x), m.all)
		}
	}
	for _, x := range m.all {
		if !q.Ever(x) {
			t.Fatalf("Ever(%d) of %v", x, m.all)
		}
	}
}

// popped: all that are in the row, one behind the other.
func popped(q *Queue) []int {
	var l []int
	for x, ok := q.Pop(); ok; x, ok = q.Pop() {
		l = append(l, x)
	}
	return l
}

// P18.1
func TestTheExample(t *testing.T) {
	var q Queue
	if n := q.Push(3, 3, 5); n != 2 {
		t.Errorf("Push of 3, 3, 5: %d", n)
	}
	if x, ok := q.Pop(); x != 3 || !ok {
		t.Errorf("Pop: %d, %v", x, ok)
	}
	if n := q.Push(3); n != 0 {
		t.Errorf("Push of 3: %d", n)
	}
	holds(t, &q, &model{all: []int{3, 5}, gone: 1})
}

// P18.1: the zero one has none; nor has one upon which nothing was pushed.
func TestNoneAtFirst(t *testing.T) {
	var q Queue
	for range 3 {
		holds(t, &q, &model{})
		if x, ok := q.Pop(); x != 0 || ok {
			t.Errorf("Pop of none: %d, %v", x, ok)
		}
		if q.Push() != 0 || q.Push([]int{}...) != 0 || q.Push(nil...) != 0 {
			t.Error("Push of none")
		}
	}
	if q.Push(0) != 1 || !q.Ever(0) || q.Len() != 1 {
		t.Error("Push of 0")
	}
	if x, ok := q.Pop(); x != 0 || !ok {
		t.Errorf("Pop of 0: %d, %v", x, ok)
	}
	if x, ok := q.Pop(); x != 0 || ok {
		t.Errorf("Pop behind all: %d, %v", x, ok)
	}
	holds(t, &q, &model{all: []int{0}, gone: 1})
}

// P18.1: whatever numbers they are, they stand in the order in which they came, not in theirs.
func TestTheOrder(t *testing.T) {
	l := []int{7, math.MaxInt, -1, 0, math.MinInt, 7, 1 << 40, -1, 2, math.MaxInt}
	want := []int{7, math.MaxInt, -1, 0, math.MinInt, 1 << 40, 2}
	var q, other Queue
	if n := q.Push(l...); n != len(want) {
		t.Errorf("Push of all: %d", n)
	}
	for _, x := range l {
		other.Push(x)
	}
	if got := popped(&q); !slices.Equal(got, want) {
		t.Errorf("all at once: %v", got)
	}
	if got := popped(&other); !slices.Equal(got, want) {
		t.Errorf("one by one: %v", got)
	}
	holds(t, &q, &model{all: want, gone: len(want)})
}

// P18.1: a number that was looked at doesn't come back, but others do come behind.
func TestEachOnceForEver(t *testing.T) {
	var q Queue
	q.Push(4, 8)
	popped(&q)
	if n := q.Push(8, 9, 4, 9); n != 1 || q.Len() != 1 {
		t.Errorf("Push of one that is new: %d, Len %d", n, q.Len())
	}
	if got := popped(&q); !slices.Equal(got, []int{9}) {
		t.Errorf("Pop: %v", got)
	}
	if q.Push(4, 8, 9) != 0 || q.Len() != 0 || len(popped(&q)) != 0 {
		t.Error("Push of all again")
	}
}

// P18.1: many calls of all kinds, held against the model after each.
func TestAgainstTheModel(t *testing.T) {
	r := rng.New(18, 1)
	for round := range 60 {
		var q Queue
		var m model
		for range 120 {
			if r.Below(5) < 2 {
				x, ok := q.Pop()
				want, has := m.pop()
				if x != want || ok != has {
					t.Fatalf("round %d: Pop %d, %v, want %d, %v", round, x, ok, want, has)
				}
			} else {
				l := make([]int, r.Below(4))
				for i := range l {
					l[i] = r.Below(20+20*(round%3)) - 2
				}
				if n, want := q.Push(l...), m.push(l); n != want {
					t.Fatalf("round %d: Push(%v) %d, want %d", round, l, n, want)
				}
			}
			holds(t, &q, &m)
		}
	}
}

// P18.1: many numbers, while some are looked at in between.
func TestOfMany(t *testing.T) {
	const many = 300000
	var q Queue
	next := 0
	pop := func() {
		if x, ok := q.Pop(); x != next*7 || !ok {
			t.Fatalf("Pop: %d, %v, want %d", x, ok, next*7)
		}
		next++
	}
	for n := range many {
		// The one ahead of it is there already, or was.
		if q.Push(n*7, max(n-1, 0)*7, n*7) != 1 || !q.Ever(n*7) {
			t.Fatalf("Push of %d", n*7)
		}
		if n%3 == 2 {
			pop()
		}
	}
	if q.Len() != many-many/3 {
		t.Errorf("Len %d", q.Len())
	}
	for next < many {
		pop()
	}
	if x, ok := q.Pop(); x != 0 || ok || q.Len() != 0 {
		t.Errorf("Pop behind all: %d, %v", x, ok)
	}
}

// P2: what is handed in is neither changed nor kept.
func TestWhatIsHandedIn(t *testing.T) {
	room := []int{5, 6, 6, 77, 78}
	var q Queue
	q.Push(room[:3]...)
	q.Push(9)
	if !slices.Equal(room, []int{5, 6, 6, 77, 78}) {
		t.Errorf("changed: %v", room)
	}
	clear(room)
	if got := popped(&q); !slices.Equal(got, []int{5, 6, 9}) || q.Ever(0) {
		t.Errorf("kept: %v", got)
	}
}

// P2: queues don't know each other, and to ask changes nothing.
func TestQueuesAreApart(t *testing.T) {
	var a, b Queue
	a.Push(1, 2)
	for range 3 {
		holds(t, &a, &model{all: []int{1, 2}})
		holds(t, &b, &model{})
	}
	if b.Push(2) != 1 || a.Len() != 2 {
		t.Error("Push of another one")
	}
	b.Pop()
	holds(t, &a, &model{all: []int{1, 2}})
	holds(t, &b, &model{all: []int{2}, gone: 1})
}

// P1: calls at all arguments end.
func TestCallsAtAllArguments(t *testing.T) {
	numbers := []int{math.MinInt, math.MinInt + 1, -1 << 32, -1, 0, 1, 1 << 20, 1 << 32, math.MaxInt - 1, math.MaxInt}
	var q Queue
	for _, x := range numbers {
		if q.Ever(x) || q.Push(x, x) != 1 || !q.Ever(x) || q.Push(x) != 0 {
			t.Errorf("the number %d", x)
		}
	}
	if q.Push(numbers...) != 0 || !slices.Equal(popped(&q), numbers) {
		t.Error("all numbers")
	}
}
