package field

import (
	"math/big"
	"testing"
)

// wantRoot is the root of u / v that isn't odd; nil, if there is none.
func wantRoot(u, v *big.Int) *big.Int {
	p := prime()
	if rest(v).Sign() == 0 {
		return nil
	}
	n := new(big.Int).ModInverse(v, p)
	r := n.ModSqrt(rest(n.Mul(n, u)), p)
	if r != nil && r.Bit(0) == 1 {
		r.Sub(p, r)
	}
	return r
}

// checkRoot: the root that there is, or none: then the number is 0 in each field.
func checkRoot(t *testing.T, u, v *big.Int) {
	t.Helper()
	got, ok := Root(of(u), of(v))
	want := wantRoot(u, v)
	if want == nil {
		if ok || got != (Elem{}) {
			t.Errorf("Root of %x, %x: %x, %v; there is none", u, v, got.Bytes(), ok)
		}
		return
	}
	check(t, "Root", got, want)
	if !ok || got.Odd() || !got.Mul(got).Mul(of(v)).Same(of(u)) {
		t.Errorf("Root of %x, %x: %x, %v", u, v, got.Bytes(), ok)
	}
}

// TestRootOfNumbers: P4.3: of squares and others, over 1.
func TestRootOfNumbers(t *testing.T) {
	for n := range int64(300) {
		checkRoot(t, big.NewInt(n), big.NewInt(1))
		checkRoot(t, add(prime(), -n), big.NewInt(1))
		checkRoot(t, big.NewInt(n*n), big.NewInt(1))
		checkRoot(t, rest(big.NewInt(-4*n*n)), big.NewInt(4))
	}
	for _, c := range []struct {
		u    uint32
		root int64
		ok   bool
	}{{0, 0, true}, {1, -1, true}, {2, 0, false}, {4, 2, true}, {9, -3, true}, {16, 4, true}, {25, -5, true}, {1 << 30, 1 << 15, true}} {
		r, ok := Root(Small(c.u), Small(1))
		check(t, "a root", r, big.NewInt(c.root))
		if ok != c.ok {
			t.Errorf("Root of %d: %v", c.u, ok)
		}
	}
}

// TestRootOfQuotients: P4.3: of u and v that lie beside a border, and any; among them 0 in both forms, and quotients that are squares and aren't.
func TestRootOfQuotients(t *testing.T) {
	r := chance()
	l := someElems(r, 10)
	for _, u := range l {
		for _, v := range l {
			checkRoot(t, u, v)
		}
	}
	for range 300 {
		checkRoot(t, rest(someNumber(r)), rest(someNumber(r)))
	}
}

// TestRootOfSquares: P4.3: it is the one of both roots that isn't odd; whether the first that is found is odd or not, and whether it has still to be multiplied with a root of -1.
func TestRootOfSquares(t *testing.T) {
	r := chance()
	count := map[[2]bool]int{}
	for range 300 {
		n, v := rest(someNumber(r)), rest(someNumber(r))
		u := rest(new(big.Int).Mul(new(big.Int).Mul(n, n), v))
		checkRoot(t, u, v)
		want := n
		if n.Bit(0) == 1 {
			want = new(big.Int).Sub(prime(), n)
		}
		got, ok := Root(of(u), of(v))
		check(t, "Root of a square", got, want)
		if !ok {
			t.Errorf("Root of %x, %x: none", u, v)
		}
		first := candidate(of(u), of(v))
		fit := fits(first, of(u), of(v))
		if !fit {
			first = first.Mul(Elem{rootOfMinus})
		}
		count[[2]bool{fit, first.Odd()}]++
	}
	for _, way := range [][2]bool{{false, false}, {false, true}, {true, false}, {true, true}} {
		if count[way] < 20 {
			t.Errorf("%v: %d times alone", way, count[way])
		}
	}
}

// TestRootOverZero: P4.3: there is none over 0, whatever form 0 has, and whatever u is; but the root of 0 is 0.
func TestRootOverZero(t *testing.T) {
	for _, zero := range []Elem{{}, Small(0), of(prime()), Small(7).Sub(Small(7)), of(prime()).Neg()} {
		for _, n := range someElems(chance(), 20) {
			if r, ok := Root(of(n), zero); ok || r != (Elem{}) {
				t.Errorf("Root of %x, 0: %x, %v", n, r.Bytes(), ok)
			}
			if rest(n).Sign() == 0 {
				continue
			}
			r, ok := Root(zero, of(n))
			check(t, "Root of 0", r, big.NewInt(0))
			if !ok {
				t.Errorf("Root of 0, %x: none", n)
			}
		}
	}
}

// TestRootOfMinus: the number that is written out is a root of -1.
func TestRootOfMinus(t *testing.T) {
	i := Elem{rootOfMinus}
	check(t, "the root of -1", i, new(big.Int).Exp(big.NewInt(2), new(big.Int).Rsh(prime(), 2), prime()))
	check(t, "its square", i.Mul(i), big.NewInt(-1))
	checkRoot(t, add(prime(), -1), big.NewInt(1))
	checkRoot(t, big.NewInt(1), add(prime(), -1))
}
