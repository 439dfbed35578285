// Package crc reckons sums of 32 bits of bytes, the highest bit first.
package crc

// Poly is the polynomial, without its highest bit.
const Poly = 0x04C11DB7

// size is how many bytes a sum has.
const size = 4

// Table is the remainders of all bytes.
type Table struct {
	remainders [256]uint32
}

// New: the table.
func New() *Table {
	t := &Table{}
	for b := range t.remainders {
		t.remainders[b] = remainder(byte(b))
	}
	return t
}

// remainder: what is left of one byte with 32 noughts behind it.
func remainder(b byte) uint32 {
	rest := uint32(b) << 24
	for range 8 {
		if rest>>31 == 1 {
			rest = rest<<1 ^ Poly
		} else {
			rest <<= 1
		}
	}
	return rest
}

// Sum: of bytes, one part behind the other.
func (t *Table) Sum(parts ...[]byte) uint32 {
	// Beginning with all bits set is the same as turning the first 32 bits, even if some of them are of the noughts behind.
	rest := ^uint32(0)
	for _, part := range parts {
		for _, b := range part {
			rest = rest<<8 ^ t.remainders[byte(rest>>24)^b]
		}
	}
	return ^rest
}

// Seal: bytes with their sum behind them, its highest byte first.
func (t *Table) Seal(b []byte) []byte {
	s := t.Sum(b)
	sealed := make([]byte, 0, len(b)+size)
	sealed = append(sealed, b...)
	return append(sealed, byte(s>>24), byte(s>>16), byte(s>>8), byte(s))
}

// Right: are bytes others with their sum behind them?
func (t *Table) Right(b []byte) bool {
	n := len(b) - size
	if n < 0 {
		return false
	}
	return number(b[n:]) == t.Sum(b[:n])
}

// number: bytes as a number, the highest first.
func number(b []byte) uint32 {
	var n uint32
	for _, x := range b {
		n = n<<8 | uint32(x)
	}
	return n
}
