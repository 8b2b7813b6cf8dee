package sign

import (
	"math/big"
	"slices"
	"testing"

	"dioptre/api"
	"dioptre/curve"
)

// TestTurnedSignature: P7.2: of a signature, each bit of each byte tells.
func TestTurnedSignature(t *testing.T) {
	key, sig := checkSign(t, api.Seed{1}, []byte("abc"))
	for i := range sig {
		for bit := range 8 {
			other := sig
			other[i] ^= 1 << bit
			checkVerify(t, key, other, []byte("abc"), false)
		}
		for _, c := range []byte{0, 0x7f, 0xff, ^sig[i]} {
			other := sig
			other[i] = c
			checkVerify(t, key, other, []byte("abc"), other == sig)
		}
	}
}

// TestTurnedKey: P7.2: so does it of a key; and another seed's key is another one.
func TestTurnedKey(t *testing.T) {
	key, sig := checkSign(t, api.Seed{1}, []byte("abc"))
	for i := range key {
		for bit := range 8 {
			other := key
			other[i] ^= 1 << bit
			checkVerify(t, other, sig, []byte("abc"), false)
		}
	}
	checkVerify(t, Public(api.Seed{2}), sig, []byte("abc"), false)
	checkVerify(t, key, Sign(api.Seed{2}, []byte("abc")), []byte("abc"), false)
	checkVerify(t, curve.Zero().Bytes(), sig, []byte("abc"), false)
	checkVerify(t, curve.Base().Bytes(), sig, []byte("abc"), false)
}

// TestTurnedMessage: P7.2: so does it of a message, and no byte more or less is right.
func TestTurnedMessage(t *testing.T) {
	message := some(chance(), 140)
	key, sig := checkSign(t, api.Seed{1}, message)
	for i := range message {
		for _, c := range []byte{1, 0x80, 0xff} {
			other := slices.Clone(message)
			other[i] ^= c
			checkVerify(t, key, sig, other, false)
		}
		checkVerify(t, key, sig, message[:i], false)
		checkVerify(t, key, sig, message[i+1:], false)
		checkVerify(t, key, sig, slices.Delete(slices.Clone(message), i, i+1), false)
	}
	checkVerify(t, key, sig, append([]byte{0}, message...), false)
	checkVerify(t, key, sig, append(slices.Clone(message), 0), false)
}

// TestChangedHalves: P7.2: each half belongs to the other one.
func TestChangedHalves(t *testing.T) {
	key, one := checkSign(t, api.Seed{1}, []byte("abc"))
	_, two := checkSign(t, api.Seed{1}, []byte("abd"))
	for _, message := range []string{"abc", "abd"} {
		checkVerify(t, key, api.Sig(slices.Concat(one[:32], two[32:])), []byte(message), false)
		checkVerify(t, key, api.Sig(slices.Concat(two[:32], one[32:])), []byte(message), false)
		checkVerify(t, key, api.Sig(slices.Concat(one[32:], one[:32])), []byte(message), false)
	}
	checkVerify(t, key, two, []byte("abc"), false)
	checkVerify(t, key, one, []byte("abd"), false)
}

// TestSecondHalf: P7.2: s and any number of times q more would bring the base to the same point, but isn't below q.
func TestSecondHalf(t *testing.T) {
	r, q := chance(), groupOrder()
	for n := range 5 {
		message := some(r, n)
		key, sig := checkSign(t, api.Seed{byte(n)}, message)
		s := numberOf(sig[32:])
		for more := new(big.Int).Add(s, q); more.BitLen() <= 256; more.Add(more, q) {
			checkVerify(t, key, withSecond(sig, more), message, false)
		}
		for _, other := range []*big.Int{q, add(q, -1), add(q, 1), add(power2(256), -1), power2(255), power2(252), new(big.Int).Sub(q, s), big.NewInt(0), add(s, 1), add(s, -1)} {
			checkVerify(t, key, withSecond(sig, other), message, false)
		}
	}
}

// TestSecondHalfOfZero: P7.2: with the key Zero, R is the base, s times; only an s below q is right.
func TestSecondHalfOfZero(t *testing.T) {
	q := groupOrder()
	for _, c := range []struct {
		s    *big.Int
		want bool
	}{
		{big.NewInt(0), true},
		{big.NewInt(1), true},
		{big.NewInt(2), true},
		{power2(252), true},
		{add(q, -2), true},
		{add(q, -1), true},
		{q, false},
		{add(q, 1), false},
		{power2(253), false},
		{new(big.Int).Lsh(q, 3), false},
		{power2(255), false},
		{add(power2(256), -1), false},
	} {
		front := curve.Base().Mul(bytesOf(c.s)).Bytes()
		for _, message := range []string{"", "a", "abc"} {
			checkVerify(t, curve.Zero().Bytes(), joined(front, c.s), []byte(message), c.want)
			checkVerify(t, curve.Zero().Bytes(), joined(curve.Base().Bytes(), c.s), []byte(message), c.s.Cmp(big.NewInt(1)) == 0)
		}
	}
}

// TestTurningKeys: P7.2: of a key that comes back to Zero, with s = 0, R is right if it is just the key's point, k times less than no times.
func TestTurningKeys(t *testing.T) {
	count := map[bool]int{}
	for i, key := range turns() {
		for j, front := range turns() {
			for n := range 12 {
				message := []byte{byte(n)}
				want := back(i, challengeOf(front, key, message)) == j
				checkVerify(t, key, joined(front, big.NewInt(0)), message, want)
				count[want]++
			}
		}
	}
	if count[true] < 50 || count[false] < 50 {
		t.Errorf("%v", count)
	}
}

// TestZeros: P7.2: R = Zero, s = 0 and the key Zero are right, whatever the message is; the zero Key's point comes back after 4 times, and the zero Sig is right for it just if k is 3 modulo 4.
func TestZeros(t *testing.T) {
	key, _ := checkSign(t, api.Seed{1}, nil)
	zero := joined(curve.Zero().Bytes(), big.NewInt(0))
	count := map[bool]int{}
	for n := range 40 {
		message := slices.Repeat([]byte{'a'}, n)
		checkVerify(t, curve.Zero().Bytes(), zero, message, true)
		checkVerify(t, key, zero, message, false)
		checkVerify(t, key, api.Sig{}, message, false)
		checkVerify(t, curve.Zero().Bytes(), api.Sig{}, message, false)
		rest := new(big.Int).Mod(challengeOf([32]byte{}, api.Key{}, message), big.NewInt(4)).Int64()
		checkVerify(t, api.Key{}, api.Sig{}, message, rest == 3)
		checkVerify(t, api.Key{}, Sign(api.Seed{}, message), message, false)
		count[rest == 3]++
	}
	if count[true] < 3 || count[false] < 3 {
		t.Errorf("%v", count)
	}
}

// turnedSign is a signature with R and a key beside the seed's ones by points that come back: R by the one at j, the key by the one at i. No factor is multiplied out of it, so that it is right just if j is what the key's turn, k times, takes off.
func turnedSign(t *testing.T, seed api.Seed, i, j int, message []byte) (key api.Key, sig api.Sig, want bool) {
	t.Helper()
	r, number := add(numberOf(some(chance(), 30)), 1), numberOfSeed(seed)
	key = point(t, Public(seed)).Add(point(t, turns()[i])).Bytes()
	front := curve.Base().Mul(bytesOf(r)).Add(point(t, turns()[j])).Bytes()
	k := challengeOf(front, key, message)
	s := new(big.Int).Mul(k, number)
	s.Add(s, r).Mod(s, groupOrder())
	return key, joined(front, s), back(i, k) == j
}

// TestTurnedR: P7.2: for a seed's own key only the R that isn't turned is right.
func TestTurnedR(t *testing.T) {
	for n := range 8 {
		for j := range turns() {
			message := []byte{byte(n)}
			key, sig, want := turnedSign(t, api.Seed{byte(n)}, 0, j, message)
			if want != (j == 0) || key != Public(api.Seed{byte(n)}) {
				t.Errorf("the model: %d, %v", j, want)
			}
			checkVerify(t, key, sig, message, want)
		}
	}
}

// TestTurnedBoth: P7.2: keys that are no multiples of the base alone are points, too.
func TestTurnedBoth(t *testing.T) {
	count := map[bool]int{}
	for i := range turns() {
		for j := range turns() {
			for n := range 6 {
				message := []byte{byte(n)}
				key, sig, want := turnedSign(t, api.Seed{byte(n)}, i, j, message)
				checkVerify(t, key, sig, message, want)
				count[want]++
			}
		}
	}
	if count[true] < 30 || count[false] < 30 {
		t.Errorf("%v", count)
	}
}

// TestOtherBytesOfR: P7.2: R is held against the point's bytes: written otherwise it is never right, though one who read it less closely would take it.
func TestOtherBytesOfR(t *testing.T) {
	for _, a := range aliases() {
		taken := 0
		for i, key := range turns() {
			for n := range 12 {
				message := []byte{byte(n)}
				checkVerify(t, key, joined(a.bytes, big.NewInt(0)), message, false)
				if back(i, challengeOf(a.bytes, key, message)) == a.turn {
					taken++
				}
			}
		}
		if taken < 5 {
			t.Errorf("%x would be taken %d times", a.bytes, taken)
		}
	}
}
