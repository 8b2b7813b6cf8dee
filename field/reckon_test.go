package field

import (
	"math/big"
	"math/rand/v2"
	"testing"
)

// step is one call, and what it does.
type step struct {
	name string
	elem func(a, b Elem) Elem
	want func(a, b *big.Int) *big.Int
}

func steps() []step {
	return []step{
		{"Add", Elem.Add, func(a, b *big.Int) *big.Int { return new(big.Int).Add(a, b) }},
		{"Sub", Elem.Sub, func(a, b *big.Int) *big.Int { return new(big.Int).Sub(a, b) }},
		{"Mul", Elem.Mul, func(a, b *big.Int) *big.Int { return new(big.Int).Mul(a, b) }},
		{"Neg", func(a, b Elem) Elem { return a.Neg() }, func(a, b *big.Int) *big.Int { return new(big.Int).Neg(a) }},
	}
}

// TestSteps: P4.2: sums, differences, products of numbers beside a border, and of any.
func TestSteps(t *testing.T) {
	l := someElems(chance(), 40)
	for _, s := range steps() {
		for _, a := range l {
			for _, b := range l {
				check(t, s.name, s.elem(of(a), of(b)), s.want(a, b))
			}
		}
	}
}

// TestFullLimbs: P4.2: limbs may be as great as they go, in both numbers.
func TestFullLimbs(t *testing.T) {
	const most = 1<<52 - 1
	full := Elem{[5]uint64{most, most, most, most, most}}
	n := new(big.Int)
	for i := range uint(5) {
		n.Add(n, new(big.Int).Lsh(big.NewInt(most), 51*i))
	}
	for _, s := range steps() {
		check(t, s.name, s.elem(full, full), s.want(n, n))
		for _, b := range edges() {
			check(t, s.name, s.elem(full, of(b)), s.want(n, b))
			check(t, s.name, s.elem(of(b), full), s.want(b, n))
		}
	}
	check(t, "Pow", full.Pow([32]byte{3}), new(big.Int).Exp(n, big.NewInt(3), nil))
	check(t, "Invert", full.Invert(), new(big.Int).ModInverse(n, prime()))
}

// TestOneStepOften: P4.2: one and the same call, many times one behind the other, told at the end alone.
func TestOneStepOften(t *testing.T) {
	for _, s := range steps() {
		for _, a := range edges() {
			for _, b := range []*big.Int{big.NewInt(1), add(prime(), -1), add(power2(255), -1), a} {
				elem, n := of(a), a
				for range 300 {
					elem, n = s.elem(elem, of(b)), rest(s.want(n, b))
				}
				check(t, s.name+" 300 times", elem, n)
				elem, n = of(a), a
				for range 300 {
					elem, n = s.elem(elem, elem), rest(s.want(n, n))
				}
				check(t, s.name+" with itself 300 times", elem, n)
			}
		}
	}
}

// TestManySteps: P4.2: any calls, one behind the other, told at the end alone.
func TestManySteps(t *testing.T) {
	r, all := chance(), steps()
	for range 300 {
		var elems [4]Elem
		var want [4]*big.Int
		l := edges()
		for i := range elems {
			want[i] = l[r.IntN(len(l))]
			elems[i] = of(want[i])
		}
		for range r.IntN(200) {
			s, i, j, k := all[r.IntN(len(all))], r.IntN(4), r.IntN(4), r.IntN(4)
			elems[k], want[k] = s.elem(elems[i], elems[j]), rest(s.want(want[i], want[j]))
		}
		for i := range elems {
			check(t, "behind many steps", elems[i], want[i])
		}
	}
}

// TestNegOfEdges: P4.2: of 0 and 1.
func TestNegOfEdges(t *testing.T) {
	check(t, "Neg of 0", Small(0).Neg(), big.NewInt(0))
	check(t, "Neg of the zero Elem", Elem{}.Neg(), big.NewInt(0))
	check(t, "Neg of p", of(prime()).Neg(), big.NewInt(0))
	check(t, "Neg of 1", Small(1).Neg(), add(prime(), -1))
	check(t, "Neg of p - 1", of(add(prime(), -1)).Neg(), big.NewInt(1))
	check(t, "Neg of 2^255 - 1", of(add(power2(255), -1)).Neg(), big.NewInt(-18))
}

// TestInvert: P4.2: the product with it is 1; of 0 it is 0.
func TestInvert(t *testing.T) {
	check(t, "Invert of the zero Elem", Elem{}.Invert(), big.NewInt(0))
	check(t, "Invert of p", of(prime()).Invert(), big.NewInt(0))
	check(t, "Invert of 1 - 1", Small(1).Sub(Small(1)).Invert(), big.NewInt(0))
	check(t, "Invert of 1", Small(1).Invert(), big.NewInt(1))
	check(t, "Invert of p - 1", of(add(prime(), -1)).Invert(), add(prime(), -1))
	check(t, "Invert of 2", Small(2).Invert(), new(big.Int).Rsh(add(prime(), 1), 1))
	for _, n := range someElems(chance(), 100) {
		if rest(n).Sign() != 0 {
			check(t, "Invert", of(n).Invert(), new(big.Int).ModInverse(n, prime()))
			check(t, "a number times its inverse", of(n).Mul(of(n).Invert()), big.NewInt(1))
		}
	}
}

// exponents are those beside a border, each bit alone, and any.
func exponents(r *rand.Rand) []*big.Int {
	l := edges()
	for n := range uint(256) {
		l = append(l, power2(n))
	}
	for range 20 {
		l = append(l, someNumber(r))
	}
	p := prime()
	return append(l, add(power2(256), -1), add(power2(256), -2), add(power2(255), 1), new(big.Int).Lsh(p, 1), add(new(big.Int).Lsh(p, 1), -2))
}

// TestPow: P4.2: all 256 bits of the exponent tell.
func TestPow(t *testing.T) {
	r := chance()
	for _, n := range []*big.Int{big.NewInt(0), prime(), big.NewInt(1), big.NewInt(2), add(prime(), -1), add(power2(255), -1), rest(someNumber(r)), rest(someNumber(r))} {
		for _, e := range exponents(r) {
			check(t, "Pow", of(n).Pow(bytesOf(e)), new(big.Int).Exp(rest(n), e, prime()))
		}
	}
}

// TestPowOfEdges: P4.2: of 0 and 1; 0, 1, p - 1 times, and as often as 256 bits tell.
func TestPowOfEdges(t *testing.T) {
	zero, all := [32]byte{}, bytesOf(add(power2(256), -1))
	for _, n := range edges() {
		check(t, "Pow 0", of(n).Pow(zero), big.NewInt(1))
		check(t, "Pow 1", of(n).Pow([32]byte{1}), n)
		check(t, "Pow p", of(n).Pow(bytesOf(prime())), n)
		if rest(n).Sign() != 0 {
			check(t, "Pow p - 1", of(n).Pow(bytesOf(add(prime(), -1))), big.NewInt(1))
			check(t, "Pow 2^256 - 1", of(n).Pow(all), new(big.Int).Exp(n, big.NewInt(39), prime()))
		}
	}
	check(t, "0, 0 times", Elem{}.Pow(zero), big.NewInt(1))
	check(t, "0, once", Elem{}.Pow([32]byte{1}), big.NewInt(0))
	check(t, "0, p - 1 times", Elem{}.Pow(bytesOf(add(prime(), -1))), big.NewInt(0))
	check(t, "0, 2^256 - 1 times", Elem{}.Pow(all), big.NewInt(0))
	check(t, "1, 2^256 - 1 times", Small(1).Pow(all), big.NewInt(1))
	check(t, "3, 4 times", Small(3).Pow([32]byte{4}), big.NewInt(81))
	check(t, "2, 256 times", Small(2).Pow([32]byte{0, 1}), big.NewInt(38))
}

// TestRules: P4.4: sums and products don't hang on the order; a product of a sum is the sum of the products.
func TestRules(t *testing.T) {
	l := edges()
	r := chance()
	for range 5000 {
		a, b, c := of(l[r.IntN(len(l))]), of(rest(someNumber(r))), of(l[r.IntN(len(l))])
		same := func(name string, x, y Elem) {
			if !x.Same(y) || x.Bytes() != y.Bytes() {
				t.Errorf("%s: of %x, %x, %x", name, a.Bytes(), b.Bytes(), c.Bytes())
			}
		}
		same("a + b", a.Add(b), b.Add(a))
		same("a b", a.Mul(b), b.Mul(a))
		same("a c", a.Mul(c), c.Mul(a))
		same("a + b + c", a.Add(b).Add(c), a.Add(b.Add(c)))
		same("a b c", a.Mul(b).Mul(c), a.Mul(b.Mul(c)))
		same("a (b + c)", a.Mul(b.Add(c)), a.Mul(b).Add(a.Mul(c)))
		same("a - b", a.Sub(b), a.Add(b.Neg()))
		same("a - b + b", a.Sub(b).Add(b), a)
		same("a - a", a.Sub(a), Elem{})
		same("a + 0", a.Add(Elem{}), a)
		same("1 a", Small(1).Mul(a), a)
		same("0 a", Elem{}.Mul(a), Elem{})
	}
	for _, n := range someElems(r, 50) {
		want := Small(1)
		if of(n).Zero() {
			want = Elem{}
		}
		if !of(n).Mul(of(n).Invert()).Same(want) || !of(n).Invert().Mul(of(n)).Same(want) {
			t.Errorf("%x times its inverse", n)
		}
	}
}
