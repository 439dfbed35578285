package stream

import "bytes"

// nought stands for the arena's number of a block all of whose bytes are 0. Nothing is put upon most outer equations for long, and so they take no room.
const nought = -1

// rest is what is left of an open equation: what its blocks are that are still in the graph, put upon each other, as the arena's number, and how many these are. The graph could tell that only by listing all of them, again for each block that goes.
type rest struct{ sum, left int }

// apart: which of some blocks follow, and which don't.
func (d *Decoder) apart(of []int) (known, left []int) {
	for _, b := range of {
		if _, ok := d.values[b]; ok {
			known = append(known, b)
		} else {
			left = append(left, b)
		}
	}
	return known, left
}

// admit: an equation of some blocks that follow, and some that don't.
func (d *Decoder) admit(value []byte, known, left []int) {
	eq := d.auxiliary + d.now.Admitted
	d.now.Admitted++
	if len(left) == 0 {
		// It says what the last one is, as if that one didn't follow: so no equation is worked on more often than it has blocks.
		last := len(known) - 1
		known, left = known[:last], known[last:]
	}
	d.learn(eq, d.sum(value, known), left)
	d.spread()
}

// sum: a value, with some blocks put upon it, that follow.
func (d *Decoder) sum(value []byte, known []int) int {
	// The bounds leave room for one block more than are kept.
	sum, _ := d.Alloc()
	d.Put(sum, value)
	d.work++
	for _, b := range known {
		sum = d.upon(sum, d.values[b])
	}
	return sum
}

// upon: a sum, with a block put upon it.
func (d *Decoder) upon(sum, at int) int {
	if at == nought {
		return sum
	}
	if sum == nought {
		sum, _ = d.Alloc()
	}
	d.Onto(sum, at)
	d.work++
	return sum
}

// learn: what some blocks of an equation are, put upon each other. It is open, unless there is but one of them.
func (d *Decoder) learn(eq, sum int, left []int) {
	if len(left) == 1 {
		d.tell(left[0], sum)
		return
	}
	d.Add(eq, left...)
	d.open[eq] = rest{sum, len(left)}
	d.pend(eq, 1)
}

// pend: so many more equations are open, by the number of one of them. Outer ones weren't admitted, and don't count.
func (d *Decoder) pend(eq, more int) {
	if eq >= d.auxiliary {
		d.now.Pending += more
	}
}

// tell: what a block is, as an equation says of it. It follows of this one, unless it followed ahead of it: then both must say the same.
func (d *Decoder) tell(b, sum int) {
	if at, ok := d.values[b]; ok {
		d.now.Conflict = d.now.Conflict || !bytes.Equal(d.bytesOf(at), d.bytesOf(sum))
		d.Free(sum)
		return
	}
	d.values[b] = sum
	d.fresh.Push(b)
	if b < d.p.N {
		d.now.Message++
	} else {
		d.now.Auxiliary++
	}
}

// spread: what follows of the blocks that are found. It goes on if there is a conflict, for what follows doesn't hang on values.
func (d *Decoder) spread() {
	for b, ok := d.fresh.Pop(); ok; b, ok = d.fresh.Pop() {
		for _, eq := range d.Take(b) {
			d.put(b, eq)
		}
	}
}

// put: a block goes from an open equation upon its sum. If but one is left, the equation tells that one, and isn't open any more.
func (d *Decoder) put(b, eq int) {
	e := d.open[eq]
	e.sum = d.upon(e.sum, d.values[b])
	e.left--
	if e.left > 1 {
		d.open[eq] = e
		return
	}
	last := d.Rest(eq)
	delete(d.open, eq)
	d.Drop(eq)
	d.pend(eq, -1)
	for _, b := range last {
		d.tell(b, e.sum)
	}
}

// bytesOf: the bytes of the arena's block, or of none.
func (d *Decoder) bytesOf(at int) []byte {
	if at == nought {
		return make([]byte, d.p.B)
	}
	return d.Get(at)
}
