package curve

// digit is how many bits of a number are taken at once.
const digit = 4

// share is how often a point is taken, and the point: 0 times, 1 time, and so on, as often as one digit can tell.
type share struct {
	times     [32]byte
	multiples [1 << digit]Point
}

// shareOf is a point, so many times.
func shareOf(n [32]byte, p Point) share {
	s := share{times: n}
	s.multiples[0] = Zero()
	for i := 1; i < len(s.multiples); i++ {
		s.multiples[i] = s.multiples[i-1].Add(p)
	}
	return s
}

// of is the multiple that one digit tells, the one whose lowest bit is this one.
func (s *share) of(bit int) Point {
	return s.multiples[s.times[bit/8]>>(bit%8)%(1<<digit)]
}

// together is the sum of shares: they go through their digits side by side, the highest one first, so that all are doubled at once.
func together(l ...share) Point {
	sum := Zero()
	for bit := 256 - digit; bit >= 0; bit -= digit {
		for range digit {
			sum = sum.Double()
		}
		for i := range l {
			sum = sum.Add(l[i].of(bit))
		}
	}
	return sum
}

// Mul is so many times the point.
func (p Point) Mul(n [32]byte) Point { return together(shareOf(n, p)) }

// Both is a multiple of a point, and one of the base.
func Both(n [32]byte, p Point, m [32]byte) Point {
	return together(shareOf(n, p), shareOf(m, Base()))
}
