package order

import (
	"math/big"
	"math/rand/v2"
	"slices"
	"testing"
)

// modulus is q, as the document writes it.
func modulus() *big.Int {
	n, _ := new(big.Int).SetString("27742317777372353535851937790883648493", 10)
	return n.Add(n, power2(252))
}

func power2(n uint) *big.Int { return new(big.Int).Lsh(big.NewInt(1), n) }

// add is a number, and a small one more.
func add(n *big.Int, more int64) *big.Int { return new(big.Int).Add(n, big.NewInt(more)) }

// times is a number, some times.
func times(n *big.Int, m int64) *big.Int { return new(big.Int).Mul(n, big.NewInt(m)) }

// fill lays a number out, lowest byte first.
func fill(n *big.Int, b []byte) {
	n.FillBytes(b)
	slices.Reverse(b)
}

func short(n *big.Int) [32]byte {
	var b [32]byte
	fill(n, b[:])
	return b
}

func long(n *big.Int) [64]byte {
	var b [64]byte
	fill(n, b[:])
	return b
}

// chance makes numbers, always the same ones.
func chance() *rand.Rand { return rand.New(rand.NewPCG(5, 252)) }

// someNumber is any number of so many words of 64 bits.
func someNumber(r *rand.Rand, words int) *big.Int {
	n := new(big.Int)
	for range words {
		n.Or(n.Lsh(n, 64), new(big.Int).SetUint64(r.Uint64()))
	}
	return n
}

// edges are the numbers below 2^256 that lie beside a border.
func edges() []*big.Int {
	q := modulus()
	l := []*big.Int{big.NewInt(0), big.NewInt(1), big.NewInt(2), power2(64), power2(128), power2(192), power2(252), power2(255), add(power2(252), -1), add(power2(252), 1)}
	for _, n := range []*big.Int{q, times(q, 2), times(q, 15), power2(64), power2(128), power2(192), power2(256)} {
		l = append(l, add(n, -2), add(n, -1))
	}
	return append(l, q, add(q, 1), times(q, 2), times(q, 15), new(big.Int).Rsh(q, 1))
}

// check: what is told is this number modulo q, and so below q.
func check(t *testing.T, name string, got [32]byte, want *big.Int) {
	t.Helper()
	if b := short(new(big.Int).Mod(want, modulus())); got != b {
		t.Errorf("%s: %x, not %x", name, got, b)
	}
	if !Below(got) {
		t.Errorf("%s: %x isn't below q", name, got)
	}
}

// TestReduce: P5.1: numbers of 64 bytes beside a border, and any.
func TestReduce(t *testing.T) {
	q := modulus()
	l := append(edges(), power2(256), add(power2(512), -2), add(power2(512), -1), new(big.Int).Mul(q, q))
	for n := range uint(512) {
		l = append(l, power2(n), add(power2(n), -1))
	}
	last := new(big.Int).Div(power2(512), q) // the greatest number below 2^512 that q divides is so many times q
	for n := range uint(259) {
		l = append(l, new(big.Int).Mul(q, power2(n)), new(big.Int).Mul(q, new(big.Int).Rsh(last, n)))
	}
	r := chance()
	for range 300 {
		l = append(l, someNumber(r, 8), new(big.Int).Mul(q, someNumber(r, 4)))
	}
	for _, n := range l {
		for more := range int64(3) {
			if m := add(n, more-1); m.Sign() >= 0 && m.BitLen() <= 512 {
				check(t, "Reduce", Reduce(long(m)), m)
			}
		}
	}
	check(t, "Reduce of q", Reduce(long(q)), big.NewInt(0))
	check(t, "Reduce of q - 1", Reduce(long(add(q, -1))), add(q, -1))
}

// TestReduceEachByte: P5.1: bytes stand lowest first, each in its place.
func TestReduceEachByte(t *testing.T) {
	for i := range uint(64) {
		for c := range 256 {
			var b [64]byte
			b[i] = byte(c)
			check(t, "Reduce of one byte", Reduce(b), new(big.Int).Lsh(big.NewInt(int64(c)), 8*i))
		}
	}
}

// checkBelow: whether a number is below q.
func checkBelow(t *testing.T, n *big.Int) {
	t.Helper()
	if got := Below(short(n)); got != (n.Cmp(modulus()) < 0) {
		t.Errorf("Below of %x: %v", n, got)
	}
}

// TestBelow: P5.1: numbers below q, and no others.
func TestBelow(t *testing.T) {
	q := modulus()
	if !Below([32]byte{}) || !Below(short(add(q, -1))) || Below(short(q)) || Below(short(add(q, 1))) || Below(short(add(power2(256), -1))) || !Below(short(power2(252))) {
		t.Error("Below of 0, q - 1, q, q + 1, 2^256 - 1, 2^252")
	}
	for _, n := range edges() {
		checkBelow(t, n)
	}
	for n := range uint(256) {
		checkBelow(t, power2(n))
		checkBelow(t, add(power2(n), -1))
		checkBelow(t, new(big.Int).Xor(q, power2(n)))
		if n < 252 {
			checkBelow(t, new(big.Int).Sub(q, power2(n)))
			checkBelow(t, new(big.Int).Add(q, power2(n)))
		}
	}
	r := chance()
	for range 300 {
		n := someNumber(r, 4)
		checkBelow(t, n)
		checkBelow(t, n.Rsh(n, 3))
	}
}

// TestMulAdd: P5.1: of numbers beside a border, all with all; of any; they may be above q.
func TestMulAdd(t *testing.T) {
	of := func(a, b, c *big.Int) {
		t.Helper()
		want := new(big.Int).Mul(a, b)
		check(t, "MulAdd", MulAdd(short(a), short(b), short(c)), want.Add(want, c))
	}
	l := edges()
	for _, a := range l {
		for _, b := range l {
			of(a, b, big.NewInt(0))
			of(a, b, modulus())
			of(a, big.NewInt(1), b)
			of(b, add(power2(256), -1), a)
		}
	}
	r := chance()
	for range 2000 {
		of(someNumber(r, 4), someNumber(r, 4), someNumber(r, 4))
		of(l[r.IntN(len(l))], l[r.IntN(len(l))], l[r.IntN(len(l))])
	}
	for n := range uint(256) {
		of(power2(n), power2(255-n), power2(n))
		of(power2(n), power2(n), add(power2(256), -1))
	}
	if MulAdd([32]byte{2}, [32]byte{3}, [32]byte{4}) != [32]byte{10} {
		t.Error("MulAdd of 2, 3, 4")
	}
	most := add(power2(256), -1)
	of(most, most, most)
}

// TestNeg: P5.1: the one from 0 to q - 1 with which the sum is 0.
func TestNeg(t *testing.T) {
	q := modulus()
	l := edges()
	r := chance()
	for range 300 {
		l = append(l, someNumber(r, 4))
	}
	for n := range int64(16) {
		l = append(l, times(q, n), add(times(q, n), 1), add(times(q, n), 2))
	}
	for _, n := range l {
		got := Neg(short(n))
		check(t, "Neg", got, new(big.Int).Neg(n))
		check(t, "a number, and its Neg", Sum(short(n), got), big.NewInt(0))
		check(t, "Neg of Neg", Neg(got), n)
	}
	if Neg([32]byte{}) != [32]byte{} || Neg(short(q)) != [32]byte{} || Neg(short(times(q, 15))) != [32]byte{} {
		t.Error("Neg of 0, of q, of 15 q")
	}
	if Neg([32]byte{1}) != short(add(q, -1)) || Neg(short(add(q, -1))) != [32]byte{1} || Neg(short(add(q, 1))) != short(add(q, -1)) {
		t.Error("Neg of 1, of q - 1, of q + 1")
	}
}

// checkSum: the sum of these numbers, and they are as they were.
func checkSum(t *testing.T, name string, l ...*big.Int) {
	t.Helper()
	numbers := make([][32]byte, 0, len(l)+1)
	want := new(big.Int)
	for _, n := range l {
		numbers = append(numbers, short(n))
		want.Add(want, n)
	}
	room := numbers[:len(l)+1]
	room[len(l)] = [32]byte{9, 9, 9}
	kept := slices.Clone(room)
	check(t, name, Sum(numbers...), want)
	if !slices.Equal(room, kept) {
		t.Errorf("%s: what was handed in has changed", name)
	}
}

// TestSum: P5.1: of none, of one, of many.
func TestSum(t *testing.T) {
	if Sum() != [32]byte{} || Sum([][32]byte(nil)...) != [32]byte{} || Sum([][32]byte{}...) != [32]byte{} {
		t.Error("Sum of none")
	}
	l := edges()
	for _, a := range l {
		checkSum(t, "Sum of one", a)
		for _, b := range l {
			checkSum(t, "Sum of two", a, b)
			checkSum(t, "Sum of three", a, b, a)
		}
	}
	checkSum(t, "Sum of all edges", l...)
	r := chance()
	for n := range 200 {
		var some []*big.Int
		for range n {
			some = append(some, someNumber(r, 4))
		}
		checkSum(t, "Sum of many", some...)
	}
	for _, n := range []int{16, 17, 255, 256, 257, 70000} {
		checkSum(t, "Sum of the greatest", slices.Repeat([]*big.Int{add(power2(256), -1)}, n)...)
		checkSum(t, "Sum of q", slices.Repeat([]*big.Int{modulus()}, n)...)
		checkSum(t, "Sum of q - 1", slices.Repeat([]*big.Int{add(modulus(), -1)}, n)...)
	}
}

// TestRules: P5.2: what is told is below q, and doesn't hang on the order.
func TestRules(t *testing.T) {
	l := edges()
	r := chance()
	some := func() [32]byte {
		if r.IntN(2) == 0 {
			return short(l[r.IntN(len(l))])
		}
		return short(someNumber(r, 4))
	}
	for range 500 {
		a, b, c, d := some(), some(), some(), some()
		product := MulAdd(a, b, c)
		if product != MulAdd(b, a, c) || product != Sum(MulAdd(a, b, [32]byte{}), c) {
			t.Errorf("MulAdd of %x, %x, %x", a, b, c)
		}
		if MulAdd(MulAdd(a, b, [32]byte{}), c, d) != MulAdd(a, MulAdd(c, b, [32]byte{}), d) {
			t.Errorf("products of %x, %x, %x", a, b, c)
		}
		if Sum(a, b, c) != Sum(c, a, b) || Sum(a, b, c) != Sum(b, a, c) || Sum(Sum(a, b), Sum(c, d)) != Sum(d, c, b, a) {
			t.Errorf("sums of %x, %x, %x, %x", a, b, c, d)
		}
		if MulAdd(a, Sum(b, c), d) != Sum(MulAdd(a, b, d), MulAdd(a, c, [32]byte{})) {
			t.Errorf("a product of the sum of %x, %x", b, c)
		}
		if MulAdd(a, Neg(b), MulAdd(a, b, c)) != Sum(c) {
			t.Errorf("a product with the Neg of %x", b)
		}
		for _, n := range [][32]byte{product, Sum(a, b, c), Sum(a), Neg(a), Reduce([64]byte(slices.Concat(a[:], b[:])))} {
			if !Below(n) {
				t.Errorf("%x isn't below q", n)
			}
		}
	}
}
