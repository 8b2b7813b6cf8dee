package curve

import (
	"math/big"
	"testing"

	"dioptre/order"
)

// TestModel: the model's points lie on the curve, and those that come back do so as often as they should.
func TestModel(t *testing.T) {
	for _, a := range append(somePoints(), nought(), ground().times(groupOrder())) {
		x2, y2 := product(a.x, a.x), product(a.y, a.y)
		left, right := new(big.Int).Sub(y2, x2), add(product(bend, product(x2, y2)), 1)
		if product(left, big.NewInt(1)).Cmp(product(right, big.NewInt(1))) != 0 {
			t.Errorf("%x isn't on the curve", a.bytes())
		}
	}
	for _, w := range turns() {
		a := of(bytesOfText(w.text))
		for n := range w.times {
			if back := a.times(big.NewInt(n + 1)).same(nought()); back != (n+1 == w.times) {
				t.Errorf("%s, %d times: %v", w.text, n+1, back)
			}
		}
	}
}

// TestGroup: P6.3: sums don't hang on the order; Zero changes nothing; each point has its other side.
func TestGroup(t *testing.T) {
	l, r := somePoints(), chance()
	for range 300 {
		a, b, c := l[r.IntN(len(l))].point(), l[r.IntN(len(l))].point(), l[r.IntN(len(l))].point()
		if !a.Add(b).Same(b.Add(a)) || !a.Add(b).Add(c).Same(a.Add(b.Add(c))) {
			t.Errorf("sums of %x, %x, %x", a.Bytes(), b.Bytes(), c.Bytes())
		}
		if !Sum(a, b, c).Same(Sum(c, a, b)) || !Sum(a, b, c).Same(Sum(b, a, c)) || !Sum(a, Sum(b, c)).Same(Sum(Sum(a, b), c)) {
			t.Errorf("Sum of %x, %x, %x", a.Bytes(), b.Bytes(), c.Bytes())
		}
		if !a.Add(Zero()).Same(a) || !Zero().Add(a).Same(a) || !a.Add(a.Neg()).Same(Zero()) {
			t.Errorf("%x with Zero, with its Neg", a.Bytes())
		}
		if !a.Add(b).Neg().Same(a.Neg().Add(b.Neg())) || !a.Add(b).Double().Same(a.Double().Add(b.Double())) {
			t.Errorf("Neg, Double of a sum of %x, %x", a.Bytes(), b.Bytes())
		}
	}
}

// TestMultiples: P6.3: multiples of sums, of multiples; the base comes back to Zero after q times, so that numbers may be held modulo q there.
func TestMultiples(t *testing.T) {
	l, r, g := somePoints(), chance(), Base()
	for range 60 {
		a, b := l[r.IntN(len(l))].point(), l[r.IntN(len(l))].point()
		n, m := someBytes(r), someBytes(r)
		if !a.Add(b).Mul(n).Same(a.Mul(n).Add(b.Mul(n))) || !a.Mul(n).Mul(m).Same(a.Mul(m).Mul(n)) || !a.Neg().Mul(n).Same(a.Mul(n).Neg()) {
			t.Errorf("%x times %x, %x", n, a.Bytes(), b.Bytes())
		}
		if !g.Mul(order.Sum(n, m)).Same(g.Mul(n).Add(g.Mul(m))) || !g.Mul(order.MulAdd(n, m, n)).Same(g.Mul(n).Mul(m).Add(g.Mul(n))) {
			t.Errorf("the base, %x and %x times", n, m)
		}
		if !g.Mul(order.Neg(n)).Same(g.Mul(n).Neg()) || !Both(n, g, order.Neg(n)).Same(Zero()) {
			t.Errorf("the base, %x times less", n)
		}
	}
	if q := bytesOf(groupOrder()); !g.Mul(q).Same(Zero()) || order.Below(q) {
		t.Error("the base, q times")
	}
}
