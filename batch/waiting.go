package batch

import "almonry/equation"

// waiting is for how many blocks equations wait. It spares going through all of them again for each block that is found.
type waiting struct {
	in   map[int][]int // the equations that a block is in
	left []int         // how many blocks of each equation weren't found
	ripe []int         // the equations of which one block was left, still to be looked at
}

// waitingOf: all equations wait for all of their blocks.
func waitingOf(eqs []equation.Equation) *waiting {
	w := &waiting{in: map[int][]int{}, left: make([]int, len(eqs))}
	for eq, e := range eqs {
		for _, b := range e.Of {
			w.in[b] = append(w.in[b], eq)
		}
		w.leave(eq, len(e.Of))
	}
	return w
}

// found: no equation waits for a block any more.
func (w *waiting) found(b int) {
	for _, eq := range w.in[b] {
		w.leave(eq, w.left[eq]-1)
	}
}

// leave: an equation waits for so many blocks.
func (w *waiting) leave(eq, many int) {
	w.left[eq] = many
	if many == 1 {
		w.ripe = append(w.ripe, eq)
	}
}

// next: an equation that is to be looked at; false: there is none.
func (w *waiting) next() (int, bool) {
	end := len(w.ripe) - 1
	if end < 0 {
		return 0, false
	}
	eq := w.ripe[end]
	w.ripe = w.ripe[:end]
	return eq, true
}
