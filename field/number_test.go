package field

import (
	"math/big"
	"math/rand/v2"
	"slices"
	"testing"
)

// prime is p.
func prime() *big.Int { return add(power2(255), -19) }

func power2(n uint) *big.Int { return new(big.Int).Lsh(big.NewInt(1), n) }

// add is a number, and a small one more.
func add(n *big.Int, more int64) *big.Int { return new(big.Int).Add(n, big.NewInt(more)) }

// rest is a number modulo p, from 0 to p - 1.
func rest(n *big.Int) *big.Int { return new(big.Int).Mod(n, prime()) }

// bytesOf is a number from 0 to 2^256 - 1 as bytes.
func bytesOf(n *big.Int) [32]byte {
	var b [32]byte
	n.FillBytes(b[:])
	slices.Reverse(b[:])
	return b
}

// of is a number from 0 to 2^255 - 1.
func of(n *big.Int) Elem { return Of(bytesOf(n)) }

// edges are the numbers from 0 to 2^255 - 1 that lie just beside a border.
func edges() []*big.Int {
	p := prime()
	l := []*big.Int{
		big.NewInt(0), big.NewInt(1), big.NewInt(2), big.NewInt(18), big.NewInt(19), big.NewInt(20),
		add(p, -20), add(p, -19), add(p, -2), add(p, -1), p, add(p, 1), add(p, 2), add(power2(255), -2), add(power2(255), -1),
		new(big.Int).Rsh(p, 1), add(new(big.Int).Rsh(p, 1), 1), add(power2(254), -10), power2(254),
	}
	for n := uint(51); n < 255; n += 51 {
		l = append(l, add(power2(n), -1), power2(n), add(power2(n), 1))
	}
	return l
}

// chance makes numbers, always the same ones.
func chance() *rand.Rand { return rand.New(rand.NewPCG(4, 19)) }

// someNumber is any number from 0 to 2^256 - 1.
func someNumber(r *rand.Rand) *big.Int {
	n := new(big.Int)
	for range 4 {
		n.Or(n.Lsh(n, 64), new(big.Int).SetUint64(r.Uint64()))
	}
	return n
}

// someElems are edges, and any numbers.
func someElems(r *rand.Rand, n int) []*big.Int {
	l := edges()
	for range n {
		l = append(l, rest(someNumber(r)))
	}
	return l
}

// check: the number is this one, modulo p; and its limbs are as small as Elem tells, so that what is done next is right, too.
func check(t *testing.T, name string, got Elem, want *big.Int) {
	t.Helper()
	n := rest(want)
	b := bytesOf(n)
	if got.Bytes() != b {
		t.Errorf("%s: %x, not %x", name, got.Bytes(), b)
	}
	if got.Odd() != (n.Bit(0) == 1) || got.Zero() != (n.Sign() == 0) || !got.Same(Of(b)) {
		t.Errorf("%s: Odd %v, Zero %v, Same %v of %x", name, got.Odd(), got.Zero(), got.Same(Of(b)), b)
	}
	for _, x := range got.limbs {
		if x >= 1<<52 {
			t.Errorf("%s: a limb is %x", name, x)
		}
	}
}

// TestZeroElem: P4.1: the zero Elem is 0.
func TestZeroElem(t *testing.T) {
	var zero Elem
	check(t, "the zero Elem", zero, big.NewInt(0))
	if zero.Bytes() != [32]byte{} || zero.Odd() || !zero.Zero() || !zero.Same(Small(0)) || !zero.Same(of(prime())) || zero.Same(Small(1)) {
		t.Error("the zero Elem isn't 0")
	}
	if zero != (Elem{}) {
		t.Error("Elem can't be compared")
	}
}

// TestOf: P4.1: numbers of bytes, modulo p; the highest bit tells nothing.
func TestOf(t *testing.T) {
	l := edges()
	for n := range uint(255) {
		l = append(l, power2(n), add(power2(n), -1), new(big.Int).Sub(prime(), power2(n)))
	}
	for r := chance(); len(l) < 3000; {
		l = append(l, new(big.Int).Rsh(someNumber(r), 1))
	}
	for _, n := range l {
		b := bytesOf(n)
		check(t, "Of", Of(b), n)
		b[31] |= 0x80
		check(t, "Of, the highest bit set", Of(b), n)
	}
	check(t, "Of 2^255", of(power2(255)), big.NewInt(0))
	check(t, "Of 2^256 - 1", of(add(power2(256), -1)), big.NewInt(18))
	check(t, "Of 2 p", of(new(big.Int).Lsh(prime(), 1)), add(power2(255), -38))
}

// TestOfEachByte: P4.1: bytes stand lowest first, each in its place.
func TestOfEachByte(t *testing.T) {
	for i := range uint(32) {
		for c := range 256 {
			var b [32]byte
			b[i] = byte(c)
			if i == 31 {
				c &= 0x7f
			}
			check(t, "Of one byte", Of(b), new(big.Int).Lsh(big.NewInt(int64(c)), 8*i))
		}
	}
}

// TestSmall: P4.1: small numbers, up to the greatest one.
func TestSmall(t *testing.T) {
	for _, n := range []uint32{0, 1, 2, 18, 19, 20, 255, 256, 65535, 65536, 121665, 1<<31 - 1, 1 << 31, 1<<32 - 2, 1<<32 - 1} {
		check(t, "Small", Small(n), big.NewInt(int64(n)))
	}
}

// checkCanonical: whether bytes are below p, with the highest bit.
func checkCanonical(t *testing.T, n *big.Int) {
	t.Helper()
	if got := Canonical(bytesOf(n)); got != (n.Cmp(prime()) < 0) {
		t.Errorf("Canonical of %x: %v", n, got)
	}
}

// TestCanonical: P4.1: bytes below p, and no others.
func TestCanonical(t *testing.T) {
	if !Canonical([32]byte{}) || !Canonical(bytesOf(add(prime(), -1))) || Canonical(bytesOf(prime())) || Canonical(bytesOf(power2(255))) {
		t.Error("Canonical of 0, p - 1, p, 2^255")
	}
	for more := range int64(60) {
		for _, n := range []*big.Int{prime(), power2(255), new(big.Int).Lsh(prime(), 1), add(power2(256), -60)} {
			if m := add(n, more); m.BitLen() <= 256 {
				checkCanonical(t, m)
			}
			checkCanonical(t, add(n, -more))
		}
		checkCanonical(t, big.NewInt(more))
		checkCanonical(t, new(big.Int).Add(prime(), add(power2(255), more-60)))
	}
	for n := range uint(256) {
		checkCanonical(t, power2(n))
		if n < 255 {
			checkCanonical(t, new(big.Int).Sub(prime(), power2(n)))
		}
	}
	for _, n := range edges() {
		checkCanonical(t, n)
		checkCanonical(t, new(big.Int).Add(n, power2(255)))
	}
	r := chance()
	for range 1000 {
		checkCanonical(t, someNumber(r))
	}
}

// TestSame: P4.1: two numbers are the same, or aren't, whatever made them.
func TestSame(t *testing.T) {
	l := someElems(chance(), 30)
	for _, m := range l {
		for _, n := range l {
			same := rest(m).Cmp(rest(n)) == 0
			if of(m).Same(of(n)) != same || of(m).Add(of(n)).Sub(of(n)).Same(of(n)) != same {
				t.Errorf("Same of %x and %x isn't %v", m, n, same)
			}
		}
		for bit := range uint(255) {
			if other := new(big.Int).Xor(rest(m), power2(bit)); other.Cmp(prime()) < 0 && of(m).Same(of(other)) {
				t.Errorf("Same of %x and %x", m, other)
			}
		}
	}
}

// TestForms: P4.1: a number has one form, however it is held: limbs may be greater than their bits.
func TestForms(t *testing.T) {
	const most = 1<<52 - 1
	limbs := []uint64{0, 1, mask - 19, mask - 18, mask - 1, mask, mask + 1, most - 19, most - 1, most}
	for code := range 100000 {
		var e Elem
		n := new(big.Int)
		for i := range e.limbs {
			e.limbs[i] = limbs[code%10]
			code /= 10
			n.Add(n, new(big.Int).Lsh(new(big.Int).SetUint64(e.limbs[i]), uint(51*i)))
		}
		check(t, "a form", e, n)
	}
}
