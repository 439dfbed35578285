package stream

import (
	"bytes"
	"fmt"
	"math"
	"slices"
	"testing"

	"almonry/api"
	"almonry/batch"
	"almonry/compose"
	"almonry/equation"
	"almonry/inner"
	"almonry/outer"
	"almonry/params"
	"almonry/rng"
)

// model is a decoder by the words of the chapter alone: it goes through all of its equations again whenever it is asked.
type model struct {
	p          api.Params
	held       int
	eqs        []equation.Equation // the outer ones ahead
	admitted   int
	mostPlaces int
}

func newModel(p api.Params, session uint64, held int) *model {
	m := &model{p: p, held: held}
	g, _ := outer.New(p, session)
	for a := range g.Auxiliary() {
		m.eqs = append(m.eqs, equation.Equation{Of: g.Equation(a), Value: make([]byte, p.B)})
	}
	m.mostPlaces = m.places()
	return m
}

// solved: what layer 17 says of all equations.
func (m *model) solved() batch.Result {
	return batch.Solve(params.All(m.p), m.p.B, m.eqs...)
}

// left: how many blocks of some don't follow.
func left(r batch.Result, of []int) int {
	n := 0
	for _, b := range of {
		if !slices.Contains(r.Known, b) {
			n++
		}
	}
	return n
}

func (m *model) progress() api.Progress {
	r := m.solved()
	q := api.Progress{Admitted: m.admitted, Conflict: r.Conflict}
	for _, b := range r.Known {
		if b < m.p.N {
			q.Message++
		} else {
			q.Auxiliary++
		}
	}
	for _, e := range m.eqs[len(m.eqs)-m.admitted:] {
		if left(r, e.Of) >= 2 {
			q.Pending++
		}
	}
	q.Done = !r.Conflict && q.Message == m.p.N
	return q
}

// places: how many places of blocks that don't follow there are in all equations.
func (m *model) places() int {
	r, n := m.solved(), 0
	for _, e := range m.eqs {
		n += left(r, e.Of)
	}
	return n
}

// degrees: how many blocks all equations have, together.
func (m *model) degrees() int {
	n := 0
	for _, e := range m.eqs {
		n += len(e.Of)
	}
	return n
}

// malformed: by the words of P20.2, number by number.
func (m *model) malformed(value []byte, of []int) bool {
	for i, b := range of {
		if b < 0 || b >= params.All(m.p) || i > 0 && of[i-1] >= b {
			return true
		}
	}
	return len(of) == 0 || len(of) > m.p.F || len(value) != m.p.B
}

func (m *model) push(value []byte, of []int) api.Verdict {
	q, n := m.progress(), left(m.solved(), of)
	switch {
	case m.malformed(value, of):
		return api.Malformed
	case q.Done || q.Conflict:
		return api.Surplus
	case q.Pending == m.held && n >= 2:
		return api.Full
	}
	m.eqs = append(m.eqs, equation.Equation{Of: slices.Clone(of), Value: bytes.Clone(value)})
	m.admitted++
	m.mostPlaces = max(m.mostPlaces, m.places())
	switch {
	case m.progress().Conflict:
		return api.Conflict
	case n == 0:
		return api.Known
	case n == 1:
		return api.Solved
	}
	return api.Held
}

// holds: does the decoder say what the model says, and keep the bounds?
func holds(t *testing.T, d *Decoder, m *model) {
	t.Helper()
	if got, want := d.Progress(), m.progress(); got != want {
		t.Fatalf("Progress %+v, want %+v", got, want)
	}
	r := m.solved()
	for i := -2; i < params.All(m.p)+2; i++ {
		got := d.Block(i)
		switch {
		case !slices.Contains(r.Known, i):
			if len(got) != 0 {
				t.Fatalf("Block(%d) %x, which doesn't follow", i, got)
			}
		case r.Conflict:
			if len(got) != m.p.B {
				t.Fatalf("Block(%d) %x of a conflict", i, got)
			}
		case !bytes.Equal(got, r.Values[i]):
			t.Fatalf("Block(%d) %x, want %x", i, got, r.Values[i])
		}
	}
	if now, most := d.Places(); now != m.places() || most != m.mostPlaces || most > params.Edges(m.p, m.held) {
		t.Fatalf("Places %d, %d, want %d, %d of %d", now, most, m.places(), m.mostPlaces, params.Edges(m.p, m.held))
	}
	if now, most := d.Blocks(); now < 0 || now > most || most > params.Blocks(m.p, m.held) {
		t.Fatalf("Blocks %d, %d of %d", now, most, params.Blocks(m.p, m.held))
	}
	if d.Work() < 0 || d.Work() > m.degrees() {
		t.Fatalf("Work %d of %d", d.Work(), m.degrees())
	}
	if d.Progress().Pending > m.held {
		t.Fatalf("Pending %d of %d", d.Progress().Pending, m.held)
	}
}

// told is all that a decoder says, to be held against what it said.
type told struct {
	progress                                     api.Progress
	work, blocks, mostBlocks, places, mostPlaces int
	values                                       string
}

func toldBy(d *Decoder) told {
	x := told{progress: d.Progress(), work: d.Work()}
	x.blocks, x.mostBlocks = d.Blocks()
	x.places, x.mostPlaces = d.Places()
	for i := range d.p.N + d.auxiliary {
		x.values += fmt.Sprintf("%x,", d.Block(i))
	}
	return x
}

// both is a decoder and its model, to which the same is pushed.
type both struct {
	d *Decoder
	m *model
}

func newBoth(t *testing.T, p api.Params, session uint64, held int) both {
	t.Helper()
	d, wrong := New(p, session, held)
	if wrong != api.OK {
		t.Fatalf("New of %+v: %v", p, wrong)
	}
	x := both{d, newModel(p, session, held)}
	holds(t, x.d, x.m)
	return x
}

// push: both say the same; what refuses, or passes over, changes nothing.
func (x both) push(t *testing.T, value []byte, of ...int) api.Verdict {
	t.Helper()
	before := toldBy(x.d)
	got, want := x.d.Push(value, of...), x.m.push(value, of)
	if got != want {
		t.Fatalf("Push(%x, %v) %d, want %d; ahead of it %+v", value, of, got, want, before)
	}
	holds(t, x.d, x.m)
	if got <= api.Full && toldBy(x.d) != before {
		t.Fatalf("Push(%x, %v) %d changed %+v into %+v", value, of, got, before, toldBy(x.d))
	}
	return got
}

// wants: a push, and its verdict.
func (x both) wants(t *testing.T, want api.Verdict, value []byte, of ...int) {
	t.Helper()
	if got := x.push(t, value, of...); got != want {
		t.Fatalf("Push(%x, %v) %d, want %d", value, of, got, want)
	}
}

// few: Params of four message blocks of one byte each.
var few = api.Params{N: 4, B: 1, Q: 1, Eps: 1000, F: 3}

// object: bytes as if by chance.
func object(p api.Params, r *rng.Rand) []byte {
	l := make([]byte, params.Most(p))
	for i := range l {
		l[i] = byte(r.Next())
	}
	return l
}

// some: so many numbers below all, rising, as if by chance.
func some(r *rng.Rand, all, many int) []int {
	var l []int
	for len(l) < min(all, many) {
		if b := r.Below(all); !slices.Contains(l, b) {
			l = append(l, b)
		}
	}
	slices.Sort(l)
	return l
}

// P20.2, P20.3
func TestTheExample(t *testing.T) {
	x := newBoth(t, api.Params{N: 1, B: 2, Q: 1, Eps: 1000, F: 2}, 7, 1)
	x.wants(t, api.Solved, []byte{5, 6}, 0)
	if q := x.d.Progress(); q != (api.Progress{Message: 1, Auxiliary: 1, Admitted: 1, Done: true}) {
		t.Errorf("Progress %+v", q)
	}
	if !bytes.Equal(x.d.Block(0), []byte{5, 6}) || !bytes.Equal(x.d.Block(1), []byte{5, 6}) {
		t.Errorf("Block: %x, %x", x.d.Block(0), x.d.Block(1))
	}
}

// P20.1: what errors there are, the first one first, and nothing beside them.
func TestNewRefuses(t *testing.T) {
	ok := api.Params{N: 3, B: 2, Q: 2, Eps: 700, F: 3}
	bad := []api.Params{
		{},
		{N: 0, B: 2, Q: 2, Eps: 700, F: 3},
		{N: -1, B: 2, Q: 2, Eps: 700, F: 3},
		{N: params.MaxN + 1, B: 2, Q: 2, Eps: 700, F: 3},
		{N: 3, B: 0, Q: 2, Eps: 700, F: 3},
		{N: 3, B: params.MaxB + 1, Q: 2, Eps: 700, F: 3},
		{N: 3, B: 2, Q: 0, Eps: 700, F: 3},
		{N: 3, B: 2, Q: params.MaxQ + 1, Eps: 700, F: 3},
		{N: 3, B: 2, Q: 2, Eps: 0, F: 3},
		{N: 3, B: 2, Q: 2, Eps: params.MaxEps + 1, F: 3},
		{N: 3, B: 2, Q: 2, Eps: 700, F: 1},
		{N: 3, B: 2, Q: 2, Eps: 700, F: params.MaxF + 1},
		{N: 3, B: 2, Q: 2, Eps: 500, F: 2},
	}
	for _, held := range []int{1, 7, MaxHeld, 0, -1, MaxHeld + 1, math.MinInt, math.MaxInt} {
		for _, p := range bad {
			if d, wrong := New(p, 1, held); d != nil || wrong != api.ErrParams {
				t.Errorf("New(%+v, %d): %v, %v", p, held, d, wrong)
			}
		}
		d, wrong := New(ok, 1, held)
		if held >= 1 && held <= MaxHeld {
			if d == nil || wrong != api.OK {
				t.Errorf("held %d: %v, %v", held, d, wrong)
			}
		} else if d != nil || wrong != api.ErrRange {
			t.Errorf("held %d: %v, %v", held, d, wrong)
		}
	}
	if MaxHeld != 1<<20 {
		t.Errorf("MaxHeld %d", MaxHeld)
	}
}

// P20.1, P20.3: nothing was admitted; what follows of the outer equations alone does: that auxiliary blocks without message blocks are 0.
func TestNothingAtFirst(t *testing.T) {
	empty := 0
	for session := range uint64(30) {
		p := api.Params{N: 4 + int(session)%5, B: 3, Q: 1 + int(session)%2, Eps: 1000, F: 4}
		x := newBoth(t, p, session, 5)
		g, _ := outer.New(p, session)
		want := api.Progress{}
		for a := range g.Auxiliary() {
			if len(g.Has(a)) == 0 {
				want.Auxiliary++
				if !bytes.Equal(x.d.Block(p.N+a), []byte{0, 0, 0}) {
					t.Errorf("session %d: the block %d is %x", session, p.N+a, x.d.Block(p.N+a))
				}
			}
		}
		empty += want.Auxiliary
		now, most := x.d.Places()
		if x.d.Progress() != want || x.d.Work() != 0 || now != most || now != p.Q*p.N+g.Auxiliary()-want.Auxiliary {
			t.Errorf("session %d: Progress %+v, Work %d, Places %d, %d", session, x.d.Progress(), x.d.Work(), now, most)
		}
	}
	if empty == 0 {
		t.Error("there is no auxiliary block without message blocks")
	}
}

// P20.1: the session says which outer equations there are.
func TestTheSession(t *testing.T) {
	p := api.Params{N: 12, B: 1, Q: 1, Eps: 1000, F: 4}
	seen := map[string]bool{}
	for session := range uint64(8) {
		d, _ := New(p, session, 4)
		for b := range p.N {
			d.Push([]byte{1 << (b % 8)}, b)
		}
		seen[toldBy(d).values] = true
	}
	if len(seen) < 4 {
		t.Errorf("eight sessions have %d codes", len(seen))
	}
}

// P20.2: what is Malformed, each way alone, and at the edges of what isn't.
func TestMalformed(t *testing.T) {
	x := newBoth(t, few, 1, 3)
	all := params.All(few)
	for _, of := range [][]int{nil, {}, {-1}, {all}, {-1, 0}, {0, all}, {1, 0}, {0, 0}, {0, 2, 1}, {0, 1, 2, 3}, {math.MinInt, 0}, {0, math.MaxInt}, {0, 1, 2, 3, 99}} {
		x.wants(t, api.Malformed, []byte{1}, of...)
	}
	for _, value := range [][]byte{nil, {}, {1, 2}, make([]byte, 300)} {
		x.wants(t, api.Malformed, value, 0)
		x.wants(t, api.Malformed, value, 0, 1)
	}
	x.wants(t, api.Held, []byte{1}, 0, 1, 2)
	x.wants(t, api.Solved, []byte{1}, 3)
	wide := newBoth(t, api.Params{N: 4, B: 3, Q: 1, Eps: 1000, F: 2}, 1, 3)
	wide.wants(t, api.Malformed, []byte{1, 2, 3}, 0, 1, 2)
	wide.wants(t, api.Malformed, []byte{1, 2}, 0, 1)
	wide.wants(t, api.Held, []byte{1, 2, 3}, 0, 1)
}

// P20.2: behind the end all but what is Malformed is Surplus.
func TestSurplusBehindTheEnd(t *testing.T) {
	x := newBoth(t, few, 1, 1)
	for b := range few.N {
		if x.d.Progress().Done {
			t.Fatalf("Done ahead of the block %d", b)
		}
		x.wants(t, api.Solved, []byte{byte(b + 1)}, b)
	}
	if q := x.d.Progress(); !q.Done || q.Message != 4 || q.Auxiliary != params.Auxiliary(few) {
		t.Errorf("Progress %+v", q)
	}
	x.wants(t, api.Surplus, []byte{1}, 0)
	x.wants(t, api.Surplus, []byte{99}, 0)
	x.wants(t, api.Surplus, []byte{3}, 0, 1)
	x.wants(t, api.Malformed, []byte{1, 1}, 0)
	x.wants(t, api.Malformed, []byte{1}, 1, 0)
	x.wants(t, api.Malformed, []byte{1})
	x.wants(t, api.Malformed, []byte{1}, 0, 1, 2, 3)
	x.wants(t, api.Malformed, []byte{1}, params.All(few))
}

// P20.2: it isn't Done while a message block doesn't follow, even if but that one is left.
func TestNotDoneAheadOfTheEnd(t *testing.T) {
	p := api.Params{N: 5, B: 1, Q: 1, Eps: 1000, F: 3}
	for last := range p.N {
		x := newBoth(t, p, 2, 2)
		for b := range p.N {
			if b != last {
				x.push(t, []byte{byte(b)}, b)
			}
		}
		if x.d.Progress().Message == p.N-1 && x.d.Progress().Done {
			t.Errorf("Done without the block %d", last)
		}
		if v := x.push(t, []byte{byte(last)}, last); v != api.Solved && v != api.Known || !x.d.Progress().Done {
			t.Errorf("the block %d: %d, %+v", last, v, x.d.Progress())
		}
	}
}

// P20.2: as many as are held are; of one more, two blocks of which don't follow, nothing comes, while others are admitted, and room comes back.
func TestFull(t *testing.T) {
	p := api.Params{N: 10, B: 1, Q: 1, Eps: 1000, F: 4}
	for held := 1; held <= 4; held++ {
		x := newBoth(t, p, 3, held)
		for i := range held {
			x.wants(t, api.Held, []byte{3}, 2*i, 2*i+1)
		}
		x.wants(t, api.Full, []byte{3}, 0, 1)
		x.wants(t, api.Full, []byte{7}, 8, 9)
		x.wants(t, api.Full, []byte{7}, 0, 1, 8, 9)
		x.wants(t, api.Malformed, []byte{7}, 9, 8)
		x.wants(t, api.Solved, []byte{7}, 8)
		x.wants(t, api.Known, []byte{7}, 8)
		x.wants(t, api.Full, []byte{3}, 0, 1, 8)
		x.wants(t, api.Solved, []byte{1}, 0)
		if q := x.d.Progress(); q.Pending != held-1 || q.Admitted != held+3 || string(x.d.Block(1)) != "\x02" {
			t.Fatalf("held %d: %+v", held, q)
		}
	}
}

// P20.2: a conflict comes ahead of what is full.
func TestSurplusAheadOfFull(t *testing.T) {
	x := newBoth(t, few, 1, 1)
	x.wants(t, api.Solved, []byte{1}, 0)
	x.wants(t, api.Held, []byte{3}, 1, 2)
	x.wants(t, api.Full, []byte{3}, 1, 3)
	x.wants(t, api.Conflict, []byte{2}, 0)
	x.wants(t, api.Surplus, []byte{3}, 1, 3)
	x.wants(t, api.Surplus, []byte{1}, 0)
	x.wants(t, api.Surplus, []byte{3}, 3)
	x.wants(t, api.Malformed, []byte{3}, 3, 3)
}

// P20.2, P20.3: a conflict with one block alone, with all of some, with what other equations say, with an outer one; and of a chain, of which it is found at its end.
func TestConflict(t *testing.T) {
	p := api.Params{N: 8, B: 2, Q: 1, Eps: 1000, F: 5}
	one := func(n byte) []byte { return []byte{0, n} }
	for name, push := range map[string]func(x both) api.Verdict{
		"alone": func(x both) api.Verdict {
			x.wants(t, api.Solved, one(1), 3)
			return x.push(t, one(2), 3)
		},
		"all of some": func(x both) api.Verdict {
			x.wants(t, api.Solved, one(1), 3)
			x.wants(t, api.Solved, one(2), 4)
			x.wants(t, api.Known, one(3), 3, 4)
			return x.push(t, one(1), 3, 4)
		},
		"two that are held": func(x both) api.Verdict {
			x.wants(t, api.Held, one(1), 3, 4)
			x.wants(t, api.Held, one(2), 3, 4)
			return x.push(t, one(1), 3)
		},
		"around": func(x both) api.Verdict {
			x.wants(t, api.Held, one(1), 3, 4)
			x.wants(t, api.Held, one(1), 4, 5)
			x.wants(t, api.Held, one(1), 3, 5)
			return x.push(t, one(9), 4)
		},
		"an outer one": func(x both) api.Verdict {
			x.wants(t, api.Solved, one(1), 0)
			for b := 1; b < p.N-1; b++ {
				x.push(t, one(byte(b+1)), b)
			}
			e := x.m.eqs[slices.IndexFunc(x.m.eqs, func(e equation.Equation) bool { return left(x.m.solved(), e.Of) == 0 })]
			sum := one(1)
			for _, b := range e.Of[:len(e.Of)-1] {
				sum[1] ^= x.d.Block(b)[1]
			}
			return x.push(t, sum, e.Of[len(e.Of)-1])
		},
	} {
		x := newBoth(t, p, 4, 6)
		if v := push(x); v != api.Conflict || !x.d.Progress().Conflict || x.d.Progress().Done {
			t.Errorf("%s: %d, %+v", name, v, x.d.Progress())
		}
		x.wants(t, api.Surplus, one(1), 0)
	}
}

// P20.3: what follows doesn't hang on values: of a conflict, all of it still does, and nothing is Done.
func TestConflictAtTheEnd(t *testing.T) {
	x := newBoth(t, few, 1, 6)
	x.wants(t, api.Held, []byte{1}, 0, 1)
	x.wants(t, api.Held, []byte{1}, 1, 2)
	x.wants(t, api.Held, []byte{1}, 2, 3)
	x.wants(t, api.Held, []byte{9}, 0, 3)
	x.wants(t, api.Conflict, []byte{5}, 0)
	want := api.Progress{Message: 4, Auxiliary: params.Auxiliary(few), Admitted: 5, Conflict: true}
	if x.d.Progress() != want {
		t.Errorf("Progress %+v", x.d.Progress())
	}
}

// modelParams: small Params of all kinds, so that what doesn't follow, conflicts and Full are all there.
var modelParams = []api.Params{
	{N: 1, B: 1, Q: 1, Eps: 1000, F: 2},
	{N: 2, B: 1, Q: 2, Eps: 501, F: 2},
	{N: 3, B: 2, Q: 1, Eps: 700, F: 3},
	{N: 5, B: 1, Q: 3, Eps: 400, F: 4},
	{N: 6, B: 3, Q: 1, Eps: 1000, F: 2},
	{N: 9, B: 2, Q: 2, Eps: 1000, F: 5},
	{N: 12, B: 1, Q: 8, Eps: 10, F: 200},
}

// P20.2 to P20.4: many pushes of all kinds, held against the model after each: of an object; of one, some of them forged; and of anything.
func TestAgainstTheModel(t *testing.T) {
	seen := map[api.Verdict]int{}
	for round := range 420 {
		r := rng.New(20, uint64(round))
		p := modelParams[round%len(modelParams)]
		session := r.Next()
		held := 1 + r.Below(1+round%9)
		x := newBoth(t, p, session, held)
		composite, _ := compose.Blocks(p, session, object(p, r))
		kind := round / len(modelParams) % 3
		for range 3*p.N + 6 {
			of := some(r, params.All(p), 1+r.Below(1+r.Below(min(p.F, 6))))
			value, _ := compose.Check(p.B, composite, of...)
			switch chance := r.Below(12); {
			case chance == 0:
				of = append(of, of[len(of)-1]-r.Below(2))
			case chance == 1:
				value = value[:r.Below(p.B)]
			case kind == 1 && chance == 2, kind == 2:
				value[r.Below(p.B)] ^= byte(r.Below(4))
			}
			v := x.push(t, value, of...)
			seen[v]++
			if v == api.Conflict && kind == 0 {
				t.Fatalf("round %d: a conflict of an object's check blocks", round)
			}
		}
		if q := x.d.Progress(); kind == 0 && q.Done {
			for i, b := range composite {
				if !bytes.Equal(x.d.Block(i), b) {
					t.Fatalf("round %d: Block(%d) %x, want %x", round, i, x.d.Block(i), b)
				}
			}
			seen[0]++
		}
	}
	for _, v := range []api.Verdict{0, api.Malformed, api.Surplus, api.Full, api.Known, api.Held, api.Solved, api.Conflict} {
		if seen[v] < 20 {
			t.Errorf("the verdict %d is there %d times", v, seen[v])
		}
	}
}

// P20.4: the work is bounded by how many blocks the equations have, even if all of them are of blocks that follow; no room is kept for these.
func TestWorkOfWhatIsKnown(t *testing.T) {
	p := api.Params{N: 6, B: 4, Q: 1, Eps: 1000, F: 6}
	x := newBoth(t, p, 6, 2)
	for b := range p.N - 1 {
		x.push(t, []byte{1, 2, 3, byte(b)}, b)
	}
	before, _ := x.d.Blocks()
	work, degrees := x.d.Work(), 0
	for _, of := range [][]int{{0}, {0, 1}, {1, 2, 3}, {0, 1, 2, 3, 4}} {
		sum := make([]byte, p.B)
		for _, b := range of {
			for i, c := range x.d.Block(b) {
				sum[i] ^= c
			}
		}
		for range 50 {
			x.wants(t, api.Known, sum, of...)
			degrees += len(of)
		}
	}
	if now, _ := x.d.Blocks(); now != before {
		t.Errorf("Blocks %d, ahead of them %d", now, before)
	}
	if more := x.d.Work() - work; more > degrees || more < 50 {
		t.Errorf("Work %d more, of %d", more, degrees)
	}
}

// P20.4: what is put upon others is counted: of an equation that is held, the blocks that follow; the value may be, too. Of an auxiliary block without message blocks nothing is put.
func TestWorkIsCounted(t *testing.T) {
	p := api.Params{N: 6, B: 4, Q: 1, Eps: 1000, F: 6}
	one := []byte{1, 2, 3, 4}
	x := newBoth(t, p, sessionOfFull(p), 2)
	x.wants(t, api.Solved, one, 0)
	x.wants(t, api.Solved, one, 1)
	before := x.d.Work()
	x.wants(t, api.Held, one, 0, 1, 2, 3)
	if more := x.d.Work() - before; more < 2 || more > 3 {
		t.Errorf("Work %d", more)
	}
	for session := range uint64(20) {
		x := newBoth(t, p, session, 2)
		e := slices.IndexFunc(x.m.eqs, func(e equation.Equation) bool { return len(e.Of) == 1 })
		if e >= 0 {
			x.wants(t, api.Solved, one, 0, x.m.eqs[e].Of[0])
			if x.d.Work() > 2 || !bytes.Equal(x.d.Block(0), one) {
				t.Errorf("session %d: Work %d", session, x.d.Work())
			}
		}
	}
}

// sessionOfFull: a session by which all auxiliary blocks have message blocks.
func sessionOfFull(p api.Params) uint64 {
	for session := uint64(1); ; session++ {
		empty := false
		g, _ := outer.New(p, session)
		for a := range g.Auxiliary() {
			empty = empty || len(g.Has(a)) == 0
		}
		if !empty {
			return session
		}
	}
}

// P20.4: as many places as there may be at most are all there: as many equations as are held, of F blocks each, of which none follows.
func TestAllPlaces(t *testing.T) {
	p := api.Params{N: 12, B: 2, Q: 2, Eps: 1000, F: 4}
	const held = 9
	x := newBoth(t, p, sessionOfFull(p), held)
	for i := range held {
		x.wants(t, api.Held, []byte{1, 2}, i, i+1, i+2, i+3)
	}
	now, most := x.d.Places()
	if now != params.Edges(p, held) || most != now {
		t.Errorf("Places %d, %d of %d", now, most, params.Edges(p, held))
	}
	x.wants(t, api.Full, []byte{1, 2}, 0, 1)
	x.wants(t, api.Solved, []byte{1, 2}, 0)
	x.wants(t, api.Known, []byte{1, 2}, 0)
	if _, again := x.d.Places(); again != most {
		t.Errorf("Places were at most %d, then %d", most, again)
	}
}

// P20.2 to P20.4: an object's check blocks by their IDs, some of them lost, the others in another order, until it is done.
func TestAnObject(t *testing.T) {
	for i, p := range []api.Params{{N: 300, B: 7, Q: 3, Eps: 100, F: 40}, {N: 1000, B: 2, Q: 2, Eps: 20, F: 800}, {N: 64, B: 1, Q: 8, Eps: 1000, F: 2}} {
		r := rng.New(uint64(i), 77)
		composite, _ := compose.Blocks(p, 9, object(p, r))
		source, _ := inner.New(p, 9)
		const held = 5000
		d, _ := New(p, 9, held)
		degrees := p.Q*p.N + params.Auxiliary(p)
		for !d.Progress().Done {
			of := source.Blocks(r.Next() % 100000)
			value, _ := compose.Check(p.B, composite, of...)
			if v := d.Push(value, of...); v != api.Held && v != api.Solved && v != api.Known {
				t.Fatalf("Push: %d, %+v", v, d.Progress())
			}
			degrees += len(of)
			if d.Progress().Admitted > 20*p.N {
				t.Fatalf("it isn't done: %+v", d.Progress())
			}
		}
		for i, b := range composite {
			if !bytes.Equal(d.Block(i), b) {
				t.Fatalf("Block(%d) %x, want %x", i, d.Block(i), b)
			}
		}
		_, blocks := d.Blocks()
		_, places := d.Places()
		if d.Work() > degrees || d.Work() > params.Work(p, d.Progress().Admitted) || blocks > params.Blocks(p, held) || places > params.Edges(p, held) {
			t.Errorf("Work %d of %d, Blocks %d, Places %d", d.Work(), degrees, blocks, places)
		}
	}
}

// P20.2, and P1: all of a long chain follows of its last block.
func TestALongChain(t *testing.T) {
	p := api.Params{N: 1 << 15, B: 1, Q: 1, Eps: 1, F: 1200}
	d, _ := New(p, 5, p.N)
	for b := 1; b < p.N; b++ {
		if v := d.Push([]byte{1}, b-1, b); v != api.Held {
			t.Fatalf("Push: %d", v)
		}
	}
	if v := d.Push([]byte{5}, p.N-1); v != api.Solved {
		t.Fatalf("Push: %d", v)
	}
	want := api.Progress{Message: p.N, Auxiliary: params.Auxiliary(p), Admitted: p.N, Done: true}
	if d.Progress() != want || d.Block(0)[0] != 4 || d.Block(1)[0] != 5 {
		t.Errorf("Progress %+v, Block %x, %x", d.Progress(), d.Block(0), d.Block(1))
	}
	// What isn't open any more takes no room.
	if now, _ := d.Places(); now != 0 || len(d.open) != 0 || d.Equations() != 0 {
		t.Errorf("Places %d, of %d equations", now, d.Equations())
	}
}

// P20.2, and P1: many equations of very many blocks each, which follow one by one.
func TestWideEquations(t *testing.T) {
	p := api.Params{N: 4096, B: 1, Q: 1, Eps: 1, F: 4096}
	d, _ := New(p, 5, 300)
	of := make([]int, p.N)
	for i := range of {
		of[i] = i
	}
	for range 300 {
		if v := d.Push([]byte{0}, of...); v != api.Held {
			t.Fatalf("Push: %d", v)
		}
	}
	if v := d.Push([]byte{0}, of...); v != api.Full {
		t.Fatalf("Push: %d", v)
	}
	for b := range p.N - 1 {
		if v := d.Push([]byte{1}, b); v != api.Solved {
			t.Fatalf("Push of %d: %d", b, v)
		}
	}
	if q := d.Progress(); !q.Done || q.Pending != 0 || q.Conflict || d.Block(p.N - 1)[0] != 1 {
		t.Errorf("Progress %+v", q)
	}
}

// P20.1, P20.4: great Params. The outer equations' blocks take no room while nothing is put upon them.
func TestGreatParams(t *testing.T) {
	p := api.Params{N: params.MaxN, B: params.MaxB, Q: 1, Eps: params.MaxEps, F: params.MaxF}
	d, wrong := New(p, math.MaxUint64, MaxHeld)
	if wrong != api.OK {
		t.Fatal(wrong)
	}
	places, _ := d.Places()
	if q := d.Progress(); q.Message != 0 || places != p.N+params.Auxiliary(p)-q.Auxiliary {
		t.Errorf("Progress %+v, Places %d", q, places)
	}
	value := make([]byte, p.B)
	value[p.B-1] = 3
	if v := d.Push(value, p.N-1); v != api.Solved || !bytes.Equal(d.Block(p.N-1), value) {
		t.Errorf("Push: %d", v)
	}
	if v := d.Push(value, 0, params.All(p)-1); v != api.Held {
		t.Errorf("Push: %d", v)
	}
	if v := d.Push(value, params.All(p)); v != api.Malformed {
		t.Errorf("Push: %d", v)
	}
	if now, most := d.Blocks(); now > 4 || most > 4 {
		t.Errorf("Blocks %d, %d", now, most)
	}
}

// P2: what is handed in is neither changed nor kept.
func TestWhatIsHandedIn(t *testing.T) {
	x := newBoth(t, few, 1, 3)
	for _, l := range [][]int{{1, 2}, {1}, {1, 2}} {
		room := append(slices.Clone(l), 77, 78)
		value := []byte{5, 6, 7}
		of, bytesOf := slices.Clone(room), bytes.Clone(value)
		x.push(t, value[:1], room[:len(l)]...)
		if !slices.Equal(room, of) || !bytes.Equal(value, bytesOf) {
			t.Errorf("changed: %v, %v", room, value)
		}
		clear(room)
		clear(value)
		holds(t, x.d, x.m)
	}
}

// P2: what Block answers is new memory.
func TestWhatIsAnswered(t *testing.T) {
	p := api.Params{N: 4, B: 2, Q: 1, Eps: 1000, F: 3}
	for session := range uint64(12) {
		x := newBoth(t, p, session, 3)
		x.push(t, []byte{1, 2}, 0)
		for i := range params.All(p) {
			one, other := x.d.Block(i), x.d.Block(i)
			want := bytes.Clone(other)
			for k := range one {
				one[k] ^= 99
			}
			_ = append(one, 77, 78)
			if !bytes.Equal(other, want) {
				t.Errorf("session %d: the block %d of another answer is %x", session, i, other)
			}
		}
		holds(t, x.d, x.m)
	}
}

// P2: decoders don't know each other, and to ask changes nothing.
func TestDecodersAreApart(t *testing.T) {
	a, b := newBoth(t, few, 1, 2), newBoth(t, few, 1, 2)
	a.wants(t, api.Solved, []byte{1}, 0)
	a.wants(t, api.Held, []byte{2}, 1, 2)
	holds(t, b.d, b.m)
	b.wants(t, api.Solved, []byte{9}, 0)
	before := toldBy(a.d)
	for range 3 {
		if toldBy(a.d) != before {
			t.Errorf("what was told is %+v, then %+v", before, toldBy(a.d))
		}
	}
	holds(t, a.d, a.m)
}

// A decoder has the calls of its arena and its graph, too: what they say is what Blocks and Places do.
func TestPromotedCalls(t *testing.T) {
	x := newBoth(t, few, 1, 2)
	x.wants(t, api.Held, []byte{2}, 1, 2)
	x.wants(t, api.Solved, []byte{1}, 0)
	blocks, mostBlocks := x.d.Blocks()
	places, mostPlaces := x.d.Places()
	if x.d.Live() != blocks || x.d.Peak() != mostBlocks || x.d.Size() != few.B || x.d.Edges() != places || x.d.Most() != mostPlaces {
		t.Errorf("Live %d, Peak %d, Size %d, Edges %d, Most %d", x.d.Live(), x.d.Peak(), x.d.Size(), x.d.Edges(), x.d.Most())
	}
}

// P1: calls at all arguments end.
func TestCallsAtAllArguments(t *testing.T) {
	numbers := []int{math.MinInt, -1 << 32, -1, 0, 1, 2, 1 << 20, 1 << 32, math.MaxInt}
	for _, n := range numbers {
		for _, held := range numbers {
			for _, p := range []api.Params{{N: n, B: 1, Q: 1, Eps: 1000, F: 2}, {N: 1, B: n, Q: 1, Eps: 1000, F: 2}, {N: 1, B: 1, Q: n, Eps: 1000, F: 2}, {N: 1, B: 1, Q: 1, Eps: n, F: 2}, {N: 1, B: 1, Q: 1, Eps: 1000, F: n}} {
				if p.N != 1<<20 {
					New(p, uint64(n), held)
				}
			}
		}
	}
	x := newBoth(t, few, 1, 2)
	for _, a := range numbers {
		x.push(t, []byte{1}, a)
		for _, b := range numbers {
			x.push(t, []byte{1}, a, b)
			x.push(t, nil, a, b)
		}
		if got := x.d.Block(a); len(got) > 1 {
			t.Errorf("Block(%d) %x", a, got)
		}
	}
	x.wants(t, api.Malformed, make([]byte, 1<<20), make([]int, 1<<20)...)
	x.wants(t, api.Malformed, nil, nil...)
}

// P1: what is done to the parts of a decoder from outside isn't promised anything, but no call panics of it.
func TestMeddling(t *testing.T) {
	meddle := []func(d *Decoder){
		func(d *Decoder) { d.Take(0); d.Take(1) },
		func(d *Decoder) { d.Drop(0); d.Drop(1); d.Drop(few.N) },
		func(d *Decoder) { d.Add(99, 0, 1); d.Add(-5, 2) },
		func(d *Decoder) { d.Free(0); d.Free(1) },
		func(d *Decoder) {
			for _, ok := d.Alloc(); ok; {
				_, ok = d.Alloc()
			}
		},
	}
	for _, m := range meddle {
		d, _ := New(few, 1, 3)
		d.Push([]byte{1}, 0, 1)
		m(d)
		for b := range params.All(few) {
			d.Push([]byte{3}, b)
			m(d)
			d.Push([]byte{3}, 0, 1)
			d.Push([]byte{3}, 2, 3)
			d.Block(b)
			d.Progress()
		}
	}
}
