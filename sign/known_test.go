package sign

import (
	"math/big"
	"testing"

	"dioptre/api"
	"dioptre/curve"
)

// checkKnown: Known says what the model says; and for a key that is no point's bytes nothing is right. It tells which.
func checkKnown(t *testing.T, key api.Key) bool {
	t.Helper()
	want := wantKnown(key)
	if Known(key) != want {
		t.Errorf("Known of %x: %v", key, !want)
	}
	if !want {
		for _, sig := range []api.Sig{{}, joined(curve.Zero().Bytes(), big.NewInt(0)), joined(curve.Base().Bytes(), big.NewInt(1))} {
			checkVerify(t, key, sig, []byte("abc"), false)
		}
	}
	return want
}

// TestKnownEdges: P7.2: second coordinates beside a border, with the highest bit and without.
func TestKnownEdges(t *testing.T) {
	p := prime()
	for _, c := range []struct {
		y           *big.Int
		plain, high bool
	}{
		{big.NewInt(0), true, true},
		{big.NewInt(1), true, false},
		{big.NewInt(2), false, false},
		{big.NewInt(3), true, true},
		{add(p, -3), true, true},
		{add(p, -2), false, false},
		{add(p, -1), true, false},
		{p, false, false},
		{add(p, 1), false, false},
		{add(p, 2), false, false},
		{add(p, 3), false, false},
		{add(power2(255), -1), false, false},
	} {
		key := bytesOf(c.y)
		if checkKnown(t, key) != c.plain {
			t.Errorf("%x: %v", key, !c.plain)
		}
		key[31] |= 0x80
		if checkKnown(t, key) != c.high {
			t.Errorf("%x: %v", key, !c.high)
		}
	}
	if !Known(api.Key{}) || !Known(curve.Base().Bytes()) || Known(api.Key{2}) {
		t.Error("the zero Key, the base, 2")
	}
}

// TestKnown: P7.2: small and great second coordinates, all that aren't below p, and any.
func TestKnown(t *testing.T) {
	r := chance()
	var l []*big.Int
	for n := range int64(30) {
		l = append(l, big.NewInt(n), add(prime(), -n))
	}
	for n := range int64(19) {
		l = append(l, add(prime(), n))
	}
	for range 100 {
		l = append(l, numberOf(some(r, 31)))
	}
	count := map[bool]int{}
	for _, n := range l {
		key := bytesOf(n)
		count[checkKnown(t, key)]++
		key[31] |= 0x80
		count[checkKnown(t, key)]++
	}
	if count[true] < 50 || count[false] < 50 {
		t.Errorf("%v", count)
	}
}

// TestKnownKeys: P7.2, P7.3: each seed's key is known; so are the points that come back, alone and with such a key together.
func TestKnownKeys(t *testing.T) {
	for n := range 30 {
		key := Public(api.Seed{byte(n)})
		if !checkKnown(t, key) {
			t.Errorf("%x", key)
		}
		for _, b := range turns() {
			if !checkKnown(t, b) || !checkKnown(t, point(t, key).Add(point(t, b)).Bytes()) {
				t.Errorf("%x with %x", key, b)
			}
		}
	}
}

// TestAliasedKeys: P7.2: a key that is no point's bytes has no right signature, though with one who read it less closely this one would be right.
func TestAliasedKeys(t *testing.T) {
	for _, a := range aliases() {
		taken := 0
		for j, front := range turns() {
			for n := range 12 {
				message := []byte{byte(n)}
				checkVerify(t, a.bytes, joined(front, big.NewInt(0)), message, false)
				if back(a.turn, challengeOf(front, a.bytes, message)) == j {
					taken++
				}
			}
		}
		if Known(a.bytes) || taken < 5 {
			t.Errorf("%x would be taken %d times", a.bytes, taken)
		}
	}
}

// TestNoPointsKeys: P7.2: a key without a first coordinate has no right signature, not even those that would be right if it were taken for Zero.
func TestNoPointsKeys(t *testing.T) {
	for _, y := range []*big.Int{big.NewInt(2), add(prime(), -2), add(prime(), 2)} {
		for n := range int64(10) {
			sig := joined(curve.Base().Mul([32]byte{byte(n)}).Bytes(), big.NewInt(n))
			checkVerify(t, curve.Zero().Bytes(), sig, []byte("abc"), true)
			checkVerify(t, bytesOf(y), sig, []byte("abc"), false)
		}
	}
}
