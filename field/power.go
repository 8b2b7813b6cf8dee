package field

// rootOfMinus is a root of -1: 2, (p - 1) / 4 times.
var rootOfMinus = [5]uint64{0x61b274a0ea0b0, 0x0d5a5fc8f189d, 0x7ef5e9cbd0c60, 0x78595a6804c9e, 0x2b8324804fc1d}

// Pow is a power.
func (e Elem) Pow(b [32]byte) Elem {
	out := Small(1)
	downwards(b, func(bit bool) {
		out = out.Mul(out)
		if bit {
			out = out.Mul(e)
		}
	})
	return out
}

// downwards hands each bit of a number to step, the highest one first.
func downwards(b [32]byte, step func(bit bool)) {
	for i := 255; i >= 0; i-- {
		step(b[i/8]>>(i%8)&1 == 1)
	}
}

// Invert is the inverse: the power p - 2.
func (e Elem) Invert() Elem { return e.Pow(exponent(0xeb, 0x7f)) }

// exponent is the bytes of a number all of whose bits but those of the lowest and the highest byte are set.
func exponent(lowest, highest byte) [32]byte {
	b := [32]byte{lowest}
	for i := 1; i < 31; i++ {
		b[i] = 0xff
	}
	b[31] = highest
	return b
}

// Root is the root of a quotient.
func Root(u, v Elem) (Elem, bool) {
	r := candidate(u, v)
	if !fits(r, u, v) {
		r = r.Mul(Elem{rootOfMinus})
	}
	if v.Zero() || !fits(r, u, v) {
		return Elem{}, false
	}
	if r.Odd() {
		return r.Neg(), true
	}
	return r, true
}

// candidate is u / v, (p + 3) / 8 times. If u / v has a root, that is one, or is one when it is multiplied with a root of -1: squared twice it is u / v squared.
// To spare the inverse, it is made as u v^3 (u v^7)^((p - 5) / 8), which is the same.
func candidate(u, v Elem) Elem {
	v3 := v.Mul(v).Mul(v)
	v7 := v3.Mul(v3).Mul(v)
	return u.Mul(v3).Mul(u.Mul(v7).Pow(exponent(0xfd, 0x0f)))
}

// fits tells whether v times r squared is u.
func fits(r, u, v Elem) bool { return r.Mul(r).Mul(v).Same(u) }
