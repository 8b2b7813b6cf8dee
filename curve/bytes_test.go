package curve

import (
	"math/big"
	"testing"

	"dioptre/field"
)

// TestConstants: the numbers that are written out are those of the document.
func TestConstants(t *testing.T) {
	if !field.Of(d).Mul(field.Small(121666)).Same(field.Small(121665).Neg()) || d != bytesOf(bend) {
		t.Errorf("d is %x", d)
	}
	if !field.Of(baseY).Mul(field.Small(5)).Same(field.Small(4)) || !field.Canonical(baseY) {
		t.Errorf("the base's second coordinate is %x", baseY)
	}
	if field.Of(baseX).Odd() || baseX != bytesOf(ground().x) || !field.Canonical(baseX) {
		t.Errorf("the base's first coordinate is %x", baseX)
	}
}

// TestZeroAndBase: P6.1: Zero is 0, 1; the base is beside 4 / 5.
func TestZeroAndBase(t *testing.T) {
	check(t, "Zero", Zero(), nought())
	if Zero().Bytes() != [32]byte{1} || !Zero().Same(Zero()) || Zero().Same(Base()) {
		t.Error("Zero")
	}
	check(t, "Base", Base(), ground())
	if Base().Bytes() != bytesOfText("5866666666666666666666666666666666666666666666666666666666666666") {
		t.Errorf("Bytes of the base: %x", Base().Bytes())
	}
}

// TestBytes: P6.1: the second coordinate, and whether the first one is odd; a point has one text, whatever its form.
func TestBytes(t *testing.T) {
	r := chance()
	count := map[bool]int{}
	for _, a := range somePoints() {
		count[a.x.Bit(0) == 1]++
		check(t, "a point", a.point(), a)
		for _, n := range []uint32{2, 19, 1<<32 - 1, r.Uint32() | 1} {
			check(t, "another form", scaled(a.point(), n), a)
		}
	}
	if count[true] < 5 || count[false] < 5 {
		t.Errorf("%v", count)
	}
}

// wantDecode is the point of bytes, by the model.
func wantDecode(b [32]byte) (pair, bool) {
	other := b[31]&0x80 != 0
	b[31] &= 0x7f
	y := numberOf(b)
	if y.Cmp(prime()) >= 0 {
		return pair{}, false
	}
	a, ok := lift(y, other)
	return a, ok && (a.x.Bit(0) == 1) == other
}

// checkDecode: these bytes are a point's, or Zero comes, and false. It tells which.
func checkDecode(t *testing.T, b [32]byte) bool {
	t.Helper()
	got, ok := Decode(b)
	want, is := wantDecode(b)
	if ok != is {
		t.Errorf("Decode of %x: %v", b, ok)
		return is
	}
	if !is {
		want = nought()
	} else if got.Bytes() != b {
		t.Errorf("Decode of %x is the point of %x", b, got.Bytes())
	}
	check(t, "Decode", got, want)
	return is
}

// TestDecodeEdges: P6.1: second coordinates beside a border, with the highest bit and without.
func TestDecodeEdges(t *testing.T) {
	p := prime()
	for _, c := range []struct {
		y           *big.Int
		plain, high bool
	}{
		{big.NewInt(0), true, true},
		{big.NewInt(1), true, false},
		{big.NewInt(2), false, false},
		{big.NewInt(3), true, true},
		{add(p, -3), true, true},
		{add(p, -2), false, false},
		{add(p, -1), true, false},
		{p, false, false},
		{add(p, 1), false, false},
		{add(p, 3), false, false},
		{add(power2(255), -1), false, false},
	} {
		b := bytesOf(c.y)
		if checkDecode(t, b) != c.plain {
			t.Errorf("%x: %v", b, !c.plain)
		}
		b[31] |= 0x80
		if checkDecode(t, b) != c.high {
			t.Errorf("%x: %v", b, !c.high)
		}
	}
}

// TestDecode: P6.1: small and great second coordinates, all that aren't below p, and any.
func TestDecode(t *testing.T) {
	var l []*big.Int
	for n := range int64(60) {
		l = append(l, big.NewInt(n), add(prime(), -n))
	}
	for n := range int64(19) {
		l = append(l, add(prime(), n))
	}
	for n := range uint(255) {
		l = append(l, power2(n))
	}
	count := map[bool]int{}
	for _, n := range l {
		b := bytesOf(n)
		count[checkDecode(t, b)]++
		b[31] |= 0x80
		count[checkDecode(t, b)]++
	}
	r := chance()
	for range 300 {
		count[checkDecode(t, someBytes(r))]++
	}
	if count[true] < 200 || count[false] < 200 {
		t.Errorf("%v", count)
	}
}

// TestDecodeOfPoints: P6.1: a point's bytes are read as that point; with the highest bit turned, as its other side.
func TestDecodeOfPoints(t *testing.T) {
	for _, a := range somePoints() {
		b := a.bytes()
		if p, ok := Decode(b); !ok || !p.Same(a.point()) {
			t.Errorf("Decode of %x: %x, %v", b, p.Bytes(), ok)
		}
		b[31] ^= 0x80
		p, ok := Decode(b)
		if a.x.Sign() == 0 {
			if ok || p.Bytes() != [32]byte{1} {
				t.Errorf("Decode of %x: %x, %v", b, p.Bytes(), ok)
			}
		} else if !ok || !p.Same(a.point().Neg()) {
			t.Errorf("Decode of %x: %x, %v", b, p.Bytes(), ok)
		}
	}
}

// TestDecodeOfTurns: P6.1: the points that come back to Zero have bytes, too.
func TestDecodeOfTurns(t *testing.T) {
	for _, w := range turns() {
		b := bytesOfText(w.text)
		p, ok := Decode(b)
		if !ok || p.Bytes() != b {
			t.Errorf("Decode of %x: %x, %v", b, p.Bytes(), ok)
		}
		for n := range int64(17) {
			back := p.Mul([32]byte{byte(n)}).Same(Zero())
			if back != (n%w.times == 0) {
				t.Errorf("%x, %d times: %v", b, n, back)
			}
		}
	}
}
