package curve

import (
	"crypto/ed25519"
	"crypto/sha512"
	"math/big"
	"testing"
)

// TestMul: P6.2: numbers beside a border, of points of all sorts.
func TestMul(t *testing.T) {
	for _, a := range append(somePoints(), nought()) {
		for _, n := range edgeNumbers() {
			check(t, "Mul by "+n.String(), a.point().Mul(bytesOf(n)), a.times(n))
		}
		p := a.point()
		check(t, "Mul by 0", p.Mul([32]byte{}), nought())
		check(t, "Mul by 1", p.Mul([32]byte{1}), a)
		check(t, "Mul by 2", p.Mul([32]byte{2}), a.plus(a))
	}
}

// TestMulOfBase: P6.2: the numbers beside q, which bring the base back to Zero.
func TestMulOfBase(t *testing.T) {
	g, q := Base(), groupOrder()
	check(t, "q - 1 times", g.Mul(bytesOf(add(q, -1))), ground().minus())
	check(t, "q times", g.Mul(bytesOf(q)), nought())
	check(t, "q + 1 times", g.Mul(bytesOf(add(q, 1))), ground())
	if !g.Mul([32]byte{2}).Same(g.Double()) {
		t.Error("twice the base")
	}
	for n := range 300 {
		check(t, "a few times", g.Mul([32]byte{byte(n), byte(n >> 8)}), ground().times(big.NewInt(int64(n))))
	}
}

// TestMulEachBit: P6.2: bytes stand lowest first; all 256 bits tell.
func TestMulEachBit(t *testing.T) {
	for _, a := range []pair{ground(), somePoints()[len(somePoints())-1]} {
		p, want := a.point(), a.point()
		for bit := range uint(256) {
			if !p.Mul(bytesOf(power2(bit))).Same(want) {
				t.Errorf("%x, 2^%d times", p.Bytes(), bit)
			}
			want = want.Double()
		}
	}
}

// TestMulEachByte: P6.2: each byte in each place; a part of a byte doesn't change another part.
func TestMulEachByte(t *testing.T) {
	unit := Base()
	for i := range 32 {
		want := Zero()
		for c := range 256 {
			if c%15 == 0 || c%16 == 0 || c%16 == 15 || i == 31 {
				var n [32]byte
				n[i] = byte(c)
				if !Base().Mul(n).Same(want) {
					t.Errorf("%x times", n)
				}
			}
			want = want.Add(unit)
		}
		unit = want
	}
}

// TestMulOfAny: P6.2: any numbers, of any points, in whatever form they are.
func TestMulOfAny(t *testing.T) {
	r := chance()
	l := somePoints()
	for range 60 {
		a, n := l[r.IntN(len(l))], someBytes(r)
		check(t, "Mul", scaled(a.point(), r.Uint32()|1).Mul(n), a.times(numberOf(n)))
	}
}

// TestKeys: P6.2: keys are the base, as often as their seeds tell.
func TestKeys(t *testing.T) {
	r := chance()
	for range 50 {
		seed := someBytes(r)
		sum := sha512.Sum512(seed[:])
		n := [32]byte(sum[:32])
		n[0] &= 0xf8
		n[31] = n[31]&0x7f | 0x40
		want := [32]byte(ed25519.NewKeyFromSeed(seed[:])[32:])
		if got := Base().Mul(n).Bytes(); got != want {
			t.Errorf("the key of %x: %x, not %x", seed, got, want)
		}
		if p, ok := Decode(want); !ok || !p.Same(Base().Mul(n)) {
			t.Errorf("Decode of the key %x", want)
		}
	}
}

// TestBoth: P6.2: a multiple of a point, and one of the base; either may be 0 times.
func TestBoth(t *testing.T) {
	l, g := edgeNumbers(), ground()
	var ofBase []pair
	for _, n := range l {
		ofBase = append(ofBase, g.times(n))
	}
	for k, a := range append(somePoints(), nought()) {
		p := a.point()
		for i, n := range l {
			j, times := (i+k)%len(l), a.times(n)
			check(t, "Both", Both(bytesOf(n), p, bytesOf(l[j])), times.plus(ofBase[j]))
			check(t, "Both, 0 times the base", Both(bytesOf(n), p, [32]byte{}), times)
			check(t, "Both, 0 times the point", Both([32]byte{}, p, bytesOf(n)), ofBase[i])
		}
		check(t, "Both, 0 times both", Both([32]byte{}, p, [32]byte{}), nought())
		check(t, "Both, 2 and 3 times", Both([32]byte{2}, p, [32]byte{3}), a.plus(a).plus(g).plus(g).plus(g))
	}
}

// TestBothOfAny: P6.2: any numbers; it is what Mul and Add make.
func TestBothOfAny(t *testing.T) {
	r, l, g := chance(), somePoints(), ground()
	for range 60 {
		a, n, m := l[r.IntN(len(l))], someBytes(r), someBytes(r)
		got := Both(n, scaled(a.point(), r.Uint32()|1), m)
		check(t, "Both", got, a.times(numberOf(n)).plus(g.times(numberOf(m))))
		if !got.Same(a.point().Mul(n).Add(Base().Mul(m))) {
			t.Errorf("Both of %x, %x, %x", n, a.bytes(), m)
		}
		check(t, "Both of the base and its other side", Both(n, Base().Neg(), n), nought())
	}
}

// TestZeroPoint: each call of the zero Point ends.
func TestZeroPoint(t *testing.T) {
	var none Point
	most := bytesOf(add(power2(256), -1))
	for _, p := range []Point{none, Zero(), Base()} {
		for _, o := range []Point{none.Add(p), p.Add(none), none.Double(), none.Neg(), Both(most, none, most), Sum(none, p, none), none.Mul(most)} {
			o.Bytes()
			o.Same(p)
			p.Same(o)
			o.Add(o).Double().Neg().Mul(most).Same(none)
			Sum(o, none, Both([32]byte{}, o, most)).Bytes()
		}
		none.Same(p)
		p.Same(none)
		none.Same(none)
	}
	none.Bytes()
}
