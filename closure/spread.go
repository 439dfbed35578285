package closure

// step is a block that follows of an equation, all others of which followed ahead of it.
type step struct{ eq, block int }

// spread is equations that fit, and how one block after another follows of them.
type spread struct {
	in    map[int][]int // the equations that a block is in
	left  []int         // how many blocks of each equation don't follow
	rest  []int         // the numbers of these, put upon each other: if there is but one, its number
	late  func(eq int) bool
	first []int // equations of which one block was left, still to be looked at
	last  []int // likewise, those that are late
	steps []step
}

// spreadOf: all blocks that follow of equations; those that are late are taken only while there is no other.
func spreadOf(eqs [][]int, late func(eq int) bool) *spread {
	s := &spread{in: map[int][]int{}, left: make([]int, len(eqs)), rest: make([]int, len(eqs)), late: late}
	for eq, of := range eqs {
		for _, b := range of {
			s.in[b] = append(s.in[b], eq)
			s.rest[eq] ^= b
		}
		s.leave(eq, len(of))
	}
	for {
		eq, ok := s.next()
		if !ok {
			return s
		}
		// Its last block may have followed of another equation since.
		if s.left[eq] == 1 {
			s.follow(eq)
		}
	}
}

// leave: so many blocks of an equation don't follow yet.
func (s *spread) leave(eq, many int) {
	s.left[eq] = many
	switch {
	case many != 1:
	case s.late(eq):
		s.last = append(s.last, eq)
	default:
		s.first = append(s.first, eq)
	}
}

// next: the equation that is to be looked at; false: none is.
func (s *spread) next() (int, bool) {
	if eq, ok := pop(&s.first); ok {
		return eq, true
	}
	return pop(&s.last)
}

// follow: the only block of an equation that doesn't follow yet does from now on.
func (s *spread) follow(eq int) {
	b := s.rest[eq]
	s.steps = append(s.steps, step{eq, b})
	for _, has := range s.in[b] {
		s.rest[has] ^= b
		s.leave(has, s.left[has]-1)
	}
}

// closed: do all blocks of an equation follow?
func (s *spread) closed(eq int) bool { return s.left[eq] == 0 }

// pop: the last number of a list, which it has no more; false: it has none.
func pop(l *[]int) (int, bool) {
	end := len(*l) - 1
	if end < 0 {
		return 0, false
	}
	n := (*l)[end]
	*l = (*l)[:end]
	return n, true
}
