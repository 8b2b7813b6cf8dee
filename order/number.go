package order

import "math/bits"

// number is one below 2^512: words of 64 bits, the lowest one first.
type number [8]uint64

// q is the order.
var q = number{0x5812631a5cf5d3ed, 0x14def9dea2f79cd6, 0, 0x1000000000000000, 0, 0, 0, 0}

// read is the number of at most 64 bytes.
func read(b []byte) number {
	var n number
	for i, c := range b {
		n[i/8] |= uint64(c) << (8 * (i % 8))
	}
	return n
}

// bytes are those of a number below 2^256.
func (n number) bytes() [32]byte {
	var b [32]byte
	for i := range b {
		b[i] = byte(n[i/8] >> (8 * (i % 8)))
	}
	return b
}

// plus is the sum, if that is below 2^512.
func (n number) plus(o number) number {
	var out number
	var over uint64
	for i := range out {
		out[i], over = bits.Add64(n[i], o[i], over)
	}
	return out
}

// minus is the difference, and whether it is below 0: then it is told with 2^512 more.
func (n number) minus(o number) (number, bool) {
	var out number
	var short uint64
	for i := range out {
		out[i], short = bits.Sub64(n[i], o[i], short)
	}
	return out, short == 1
}

// times is the product of two numbers below 2^256.
func (n number) times(o number) number {
	var out number
	for i := range 4 {
		var over uint64
		for j := range 4 {
			high, low := bits.Mul64(n[i], o[j])
			low, one := bits.Add64(low, out[i+j], 0)
			out[i+j], over = bits.Add64(low, over, 0)
			over += high + one
		}
		out[i+4] = over
	}
	return out
}

// rest is what is left of the number, when q is taken off as often as it goes: a division, bit by bit from the highest one on.
func (n number) rest() number {
	var left number
	for i := 511; i >= 0; i-- {
		left = left.plus(left)
		left[0] |= n[i/64] >> (i % 64) & 1
		if l, short := left.minus(q); !short {
			left = l
		}
	}
	return left
}
