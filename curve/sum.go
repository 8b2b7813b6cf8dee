package curve

import "dioptre/field"

// Add is the sum of two points.
func (p Point) Add(o Point) Point {
	// Half the sum of these two products is y v + x u of the document's formula, half their difference x v + y u.
	plus := p.y.Add(p.x).Mul(o.y.Add(o.x))
	minus := p.y.Sub(p.x).Mul(o.y.Sub(o.x))
	one, more := p.z.Mul(o.z), p.t.Mul(o.t).Mul(field.Of(d))
	one, more = one.Add(one), more.Add(more)
	return quotients(plus.Sub(minus), one.Add(more), plus.Add(minus), one.Sub(more))
}

// Double is twice the point.
func (p Point) Double() Point {
	x2, y2, z2, xy := p.x.Mul(p.x), p.y.Mul(p.y), p.z.Mul(p.z), p.x.Mul(p.y)
	// The curve tells that 1 + d x^2 y^2 is y^2 - x^2, so that d isn't needed.
	under := y2.Sub(x2)
	return quotients(xy.Add(xy), under, y2.Add(x2), z2.Add(z2).Sub(under))
}

// quotients is the point whose coordinates are x / u and y / v. On this curve neither u nor v is ever 0 in a sum, as d has no root.
func quotients(x, u, y, v field.Elem) Point {
	return Point{x.Mul(v), y.Mul(u), u.Mul(v), x.Mul(y)}
}

// Neg is the point on the other side.
func (p Point) Neg() Point { return Point{p.x.Neg(), p.y, p.z, p.t.Neg()} }

// Sum is the sum of points.
func Sum(l ...Point) Point {
	sum := Zero()
	for _, p := range l {
		sum = sum.Add(p)
	}
	return sum
}
