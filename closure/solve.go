package closure

import (
	"maps"
	"slices"

	"almonry/equation"
)

// system is equations of which no block's value is known, to be looked at one by one.
type system struct {
	size int
	eqs  []equation.Equation
	in   map[int]map[int]bool // the equations, of those still to be looked at, that a block is in
}

// solvable: are there values of so many bytes of blocks by which all equations hold? Each equation can be made to hold by one of its blocks, whatever the others are, if it is put upon all other equations that have that block; but for those of which no block is left.
func solvable(size int, eqs []equation.Equation) bool {
	s := system{size: size, eqs: slices.Clone(eqs), in: map[int]map[int]bool{}}
	for i, e := range s.eqs {
		s.turn(i, e.Of)
	}
	for i := range s.eqs {
		e := s.eqs[i]
		if len(e.Of) > 0 {
			s.turn(i, e.Of)
			s.spare(s.rarest(e.Of), e)
		} else if !e.Holds() {
			return false
		}
	}
	return true
}

// turn: an equation is in each of some blocks that it wasn't in, and the other way round.
func (s *system) turn(eq int, of []int) {
	for _, b := range of {
		if s.in[b] == nil {
			s.in[b] = map[int]bool{}
		}
		if s.in[b][eq] {
			delete(s.in[b], eq)
		} else {
			s.in[b][eq] = true
		}
	}
}

// rarest: the block, of some, that is in the fewest equations, so that few must be changed.
func (s *system) rarest(of []int) int {
	return slices.MinFunc(of, func(a, b int) int { return len(s.in[a]) - len(s.in[b]) })
}

// spare: a block is in no equation any more that is still to be looked at, for one that has it is put upon all these.
func (s *system) spare(b int, by equation.Equation) {
	for _, eq := range slices.Sorted(maps.Keys(s.in[b])) {
		s.turn(eq, by.Of)
		// All values have so many bytes, so it isn't refused.
		s.eqs[eq], _ = equation.Add(s.size, s.eqs[eq], by)
	}
}
