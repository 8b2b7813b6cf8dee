package curve

import (
	"encoding/hex"
	"math/big"
	"math/rand/v2"
	"slices"
	"testing"

	"dioptre/field"
)

// pair is a point by its coordinates, reckoned with as the document's words tell: what the package must say.
type pair struct{ x, y *big.Int }

func power2(n uint) *big.Int { return new(big.Int).Lsh(big.NewInt(1), n) }

// add is a number, and a small one more.
func add(n *big.Int, more int64) *big.Int { return new(big.Int).Add(n, big.NewInt(more)) }

// prime is p, modulo which coordinates are held.
func prime() *big.Int { return add(power2(255), -19) }

// groupOrder is q, as the document writes it.
func groupOrder() *big.Int {
	n, _ := new(big.Int).SetString("27742317777372353535851937790883648493", 10)
	return n.Add(n, power2(252))
}

func product(a, b *big.Int) *big.Int {
	n := new(big.Int).Mul(a, b)
	return n.Mod(n, prime())
}

// quotient is a / b; b isn't 0.
func quotient(a, b *big.Int) *big.Int {
	p := prime()
	return product(a, new(big.Int).ModInverse(new(big.Int).Mod(b, p), p))
}

// bend is d of the curve.
var bend = quotient(big.NewInt(-121665), big.NewInt(121666))

// bytesOf is a number below 2^256, lowest byte first.
func bytesOf(n *big.Int) [32]byte {
	var b [32]byte
	n.FillBytes(b[:])
	slices.Reverse(b[:])
	return b
}

// numberOf is the number of bytes.
func numberOf(b [32]byte) *big.Int {
	slices.Reverse(b[:])
	return new(big.Int).SetBytes(b[:])
}

// nought is the model of Zero.
func nought() pair { return pair{big.NewInt(0), big.NewInt(1)} }

// lift is the point of a second coordinate from 0 to p - 1; the first one is odd or isn't, but 0 is its own other side. It is false, if there is none.
func lift(y *big.Int, odd bool) (pair, bool) {
	p := prime()
	square := product(y, y)
	x := quotient(add(square, -1), add(product(bend, square), 1))
	if x.ModSqrt(x, p) == nil {
		return pair{}, false
	}
	if x.Sign() != 0 && (x.Bit(0) == 1) != odd {
		x.Sub(p, x)
	}
	return pair{x, new(big.Int).Set(y)}, true
}

// ground is the model of the base.
func ground() pair {
	a, _ := lift(quotient(big.NewInt(4), big.NewInt(5)), false)
	return a
}

// plus is the sum, by the document's formula.
func (a pair) plus(b pair) pair {
	k := product(product(bend, product(a.x, b.x)), product(a.y, b.y))
	more, less := add(k, 1), add(new(big.Int).Neg(k), 1)
	part := quotient(big.NewInt(1), product(more, less))
	x := new(big.Int).Add(product(a.x, b.y), product(a.y, b.x))
	y := new(big.Int).Add(product(a.y, b.y), product(a.x, b.x))
	return pair{product(x, product(part, less)), product(y, product(part, more))}
}

func (a pair) minus() pair { return pair{product(big.NewInt(-1), a.x), a.y} }

// times is the point so many times.
func (a pair) times(n *big.Int) pair {
	sum := nought()
	for i := n.BitLen() - 1; i >= 0; i-- {
		sum = sum.plus(sum)
		if n.Bit(i) == 1 {
			sum = sum.plus(a)
		}
	}
	return sum
}

func (a pair) bytes() [32]byte {
	b := bytesOf(a.y)
	b[31] |= byte(a.x.Bit(0)) << 7
	return b
}

func (a pair) same(b pair) bool { return a.x.Cmp(b.x) == 0 && a.y.Cmp(b.y) == 0 }

// point is the point of these coordinates, in its plainest form.
func (a pair) point() Point { return at(field.Of(bytesOf(a.x)), field.Of(bytesOf(a.y))) }

// scaled is the same point in another form.
func scaled(p Point, n uint32) Point {
	m := field.Small(n)
	return Point{p.x.Mul(m), p.y.Mul(m), p.z.Mul(m), p.t.Mul(m)}
}

// check: the point is this one; and its form is as Point tells, so that what is done next is right, too.
func check(t *testing.T, name string, got Point, want pair) {
	t.Helper()
	if got.Bytes() != want.bytes() {
		t.Errorf("%s: %x, not %x", name, got.Bytes(), want.bytes())
	}
	if !got.Same(want.point()) || !want.point().Same(got) {
		t.Errorf("%s: %x isn't the same as itself", name, got.Bytes())
	}
	if got.z.Zero() || !got.x.Mul(got.y).Same(got.z.Mul(got.t)) {
		t.Errorf("%s: the form of %x isn't one", name, got.Bytes())
	}
}

// turn is one of the points that come back to Zero after 2, 4 or 8 times.
type turn struct {
	text  string
	times int64
}

// turns are all of these points, and Zero, which comes back at once.
func turns() []turn {
	return []turn{
		{"0100000000000000000000000000000000000000000000000000000000000000", 1},
		{"ecffffffffffffffffffffffffffffffffffffffffffffffffffffffffffff7f", 2},
		{"0000000000000000000000000000000000000000000000000000000000000000", 4},
		{"0000000000000000000000000000000000000000000000000000000000000080", 4},
		{"c7176a703d4dd84fba3c0b760d10670f2a2053fa2c39ccc64ec7fd7792ac037a", 8},
		{"c7176a703d4dd84fba3c0b760d10670f2a2053fa2c39ccc64ec7fd7792ac03fa", 8},
		{"26e8958fc2b227b045c3f489f2ef98f0d5dfac05d3c63339b13802886d53fc05", 8},
		{"26e8958fc2b227b045c3f489f2ef98f0d5dfac05d3c63339b13802886d53fc85", 8},
	}
}

// bytesOfText is 32 bytes, told in hex.
func bytesOfText(s string) [32]byte {
	b, _ := hex.DecodeString(s)
	return [32]byte(b)
}

// of is the model of bytes; they must be a point's.
func of(b [32]byte) pair {
	other := b[31]&0x80 != 0
	b[31] &= 0x7f
	a, _ := lift(numberOf(b), other)
	return a
}

// somePoints are Zero, the base and its other side, the points that come back, these and the base together, multiples of the base, and points that are no multiples of it.
func somePoints() []pair {
	g := ground()
	l := []pair{g, g.minus(), g.plus(g), g.times(groupOrder().Rsh(groupOrder(), 1))}
	for i, w := range turns() {
		a := of(bytesOfText(w.text))
		l = append(l, a)
		if i%2 == 1 {
			l = append(l, a.plus(g))
		}
	}
	for y := int64(3); y < 12; y++ {
		if a, ok := lift(big.NewInt(y), y%2 == 0); ok {
			l = append(l, a)
		}
	}
	return l
}

// chance makes numbers, always the same ones.
func chance() *rand.Rand { return rand.New(rand.NewPCG(6, 25519)) }

// someBytes are any 32 bytes.
func someBytes(r *rand.Rand) [32]byte {
	var b [32]byte
	for i := range b {
		b[i] = byte(r.Uint32())
	}
	return b
}

// edgeNumbers are the numbers that the tests take points as often as.
func edgeNumbers() []*big.Int {
	q := groupOrder()
	return []*big.Int{
		big.NewInt(0), big.NewInt(1), big.NewInt(2), big.NewInt(8), add(q, -1), q, add(q, 1), new(big.Int).Lsh(q, 3), power2(252), power2(255), add(power2(256), -1),
	}
}
