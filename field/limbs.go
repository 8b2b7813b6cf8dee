package field

import "math/bits"

const (
	size = 51          // bits of a limb
	mask = 1<<size - 1 // a limb's bits
	fold = 19          // what 2^255 is modulo p
)

// enough is 4 p: each of its limbs is greater than any limb of a number, so that nothing falls below 0 when that is taken off.
var enough = [5]uint64{0x1fffffffffffb4, 0x1ffffffffffffc, 0x1ffffffffffffc, 0x1ffffffffffffc, 0x1ffffffffffffc}

// carry hands on what each limb has above its bits to the next one, and of the last one back to the first. What comes out is below 2^52, whatever limbs below 2^62 go in.
func carry(l [5]uint64) [5]uint64 {
	return [5]uint64{
		l[0]&mask + l[4]>>size*fold,
		l[1]&mask + l[0]>>size,
		l[2]&mask + l[1]>>size,
		l[3]&mask + l[2]>>size,
		l[4]&mask + l[3]>>size,
	}
}

// least is the form of a number that is below p, and no limb of which is greater than its bits.
func least(l [5]uint64) [5]uint64 {
	l = carry(l)
	// Now the number is below 2 p. It is p or more, if 19 more make it 2^255 or more: then 1 is carried out of it, and to take p off is to add 19 and leave out 2^255.
	var out uint64 = fold
	for _, x := range l {
		out = (x + out) >> size
	}
	out *= fold
	for i, x := range l {
		l[i] = (x + out) & mask
		out = (x + out) >> size
	}
	return l
}

// wide is a sum of products of limbs.
type wide struct{ high, low uint64 }

// plus adds a product.
func (w wide) plus(x, y uint64) wide {
	high, low := bits.Mul64(x, y)
	low, over := bits.Add64(w.low, low, 0)
	return wide{w.high + high + over, low}
}

// limb is what of the sum stays in its limb.
func (w wide) limb() uint64 { return w.low & mask }

// over is what of the sum goes on to the next limb: 64 bits hold it, as five products of a limb with 19 times another one are below 2^112; and where no product is folded, as in the last sum, it is below 2^56.
func (w wide) over() uint64 { return w.high<<(64-size) | w.low>>size }
