package curve

import (
	"slices"
	"testing"
)

// TestAdd: P6.2: each of some points and each other one, among them Zero, the point itself, and its other side.
func TestAdd(t *testing.T) {
	l := append(somePoints(), nought())
	for _, a := range l {
		p := a.point()
		for _, b := range l {
			check(t, "Add", p.Add(b.point()), a.plus(b))
			check(t, "Add of the other side", p.Add(b.point().Neg()), a.plus(b.minus()))
		}
		check(t, "Add of Zero", p.Add(Zero()), a)
		check(t, "Zero, Add", Zero().Add(p), a)
		check(t, "Add of itself", p.Add(p), a.plus(a))
		check(t, "Add of its other side", p.Add(p.Neg()), nought())
	}
}

// TestForms: P6.2: whatever the forms of points are, their sum is the same.
func TestForms(t *testing.T) {
	r := chance()
	l := somePoints()
	for range 200 {
		a, b := l[r.IntN(len(l))], l[r.IntN(len(l))]
		p, o := scaled(a.point(), r.Uint32()|1), scaled(b.point(), r.Uint32()|1)
		check(t, "Add", p.Add(o), a.plus(b))
		check(t, "Double", p.Double(), a.plus(a))
		check(t, "Neg", p.Neg(), a.minus())
	}
}

// TestDouble: P6.2: the sum with itself.
func TestDouble(t *testing.T) {
	for _, a := range append(somePoints(), nought()) {
		p := a.point()
		for range 5 {
			if !p.Double().Same(p.Add(p)) {
				t.Errorf("Double of %x", p.Bytes())
			}
			p, a = p.Double(), a.plus(a)
			check(t, "Double", p, a)
		}
	}
	check(t, "Double of Zero", Zero().Double(), nought())
}

// TestNeg: P6.2: the other side.
func TestNeg(t *testing.T) {
	for _, a := range append(somePoints(), nought()) {
		p := a.point()
		check(t, "Neg", p.Neg(), a.minus())
		check(t, "Neg of Neg", p.Neg().Neg(), a)
		check(t, "Neg of Double", p.Double().Neg(), a.plus(a).minus())
		check(t, "Double of Neg", p.Neg().Double(), a.plus(a).minus())
		check(t, "a point, and its Neg", p.Neg().Add(p), nought())
	}
	check(t, "Neg of Zero", Zero().Neg(), nought())
}

// TestSame: P6.2: whether two points are the same one, made in whatever way.
func TestSame(t *testing.T) {
	l := append(somePoints(), nought())
	for _, a := range l {
		for _, b := range l {
			p, o := a.point().Add(b.point()), scaled(b.point(), 7)
			if p.Add(o.Neg()).Same(a.point()) != true || scaled(a.point(), 3).Same(o) != a.same(b) || o.Same(a.point()) != a.same(b) {
				t.Errorf("Same of %x and %x", a.bytes(), b.bytes())
			}
		}
		under := a.minus().plus(of(bytesOfText(turns()[1].text))) // the point with the same first coordinate, and the second one below 0
		for _, other := range []pair{a.minus(), under} {
			if a.point().Same(other.point()) != a.same(other) || scaled(other.point(), 5).Same(a.point()) != a.same(other) {
				t.Errorf("Same of %x and %x", a.bytes(), other.bytes())
			}
		}
	}
}

// TestSum: P6.2: of none, of one, of many.
func TestSum(t *testing.T) {
	check(t, "Sum of none", Sum(), nought())
	check(t, "Sum of nil", Sum([]Point(nil)...), nought())
	check(t, "Sum of no points", Sum([]Point{}...), nought())
	want := nought()
	var l []Point
	for _, a := range somePoints() {
		check(t, "Sum of one", Sum(a.point()), a)
		check(t, "Sum of two", Sum(a.point(), a.point()), a.plus(a))
		check(t, "Sum of a point and its Neg", Sum(a.point(), a.point().Neg()), nought())
		want = want.plus(a)
		l = append(l, a.point())
		check(t, "Sum of many", Sum(l...), want)
	}
	slices.Reverse(l)
	check(t, "Sum of many, the last one first", Sum(l...), want)
	g := slices.Repeat([]Point{Base()}, 1000)
	check(t, "Sum of 1000", Sum(g...), ground().times(add(power2(10), -24)))
}

// TestSumKeeps: what is handed in stays as it is, its spare room too.
func TestSumKeeps(t *testing.T) {
	room := []Point{Base(), Base().Double(), Zero(), Base().Neg()}
	kept := slices.Clone(room)
	check(t, "Sum", Sum(room[:2]...), ground().plus(ground()).plus(ground()))
	if !slices.Equal(room, kept) {
		t.Error("what was handed in has changed")
	}
}
