package sign

import (
	"crypto/ed25519"
	"crypto/sha512"
	"encoding/hex"
	"math/big"
	"math/rand/v2"
	"slices"
	"testing"

	"dioptre/api"
	"dioptre/curve"
)

func power2(n uint) *big.Int { return new(big.Int).Lsh(big.NewInt(1), n) }

// add is a number, and a small one more.
func add(n *big.Int, more int64) *big.Int { return new(big.Int).Add(n, big.NewInt(more)) }

// prime is p, modulo which coordinates are held.
func prime() *big.Int { return add(power2(255), -19) }

// groupOrder is q, as the document writes it.
func groupOrder() *big.Int {
	n, _ := new(big.Int).SetString("27742317777372353535851937790883648493", 10)
	return n.Add(n, power2(252))
}

// bytesOf is a number below 2^256, lowest byte first.
func bytesOf(n *big.Int) [32]byte {
	var b [32]byte
	n.FillBytes(b[:])
	slices.Reverse(b[:])
	return b
}

// numberOf is the number of bytes, lowest byte first.
func numberOf(b []byte) *big.Int {
	b = slices.Clone(b)
	slices.Reverse(b)
	return new(big.Int).SetBytes(b)
}

// numberOfSeed is how often a seed's key is the base.
func numberOfSeed(seed api.Seed) *big.Int {
	sum := sha512.Sum512(seed[:])
	n := numberOf(sum[:32])
	for bit := range 3 {
		n.SetBit(n, bit, 0)
	}
	return n.SetBit(n.SetBit(n, 255, 0), 254, 1)
}

// challengeOf is k.
func challengeOf(front [32]byte, key api.Key, message []byte) *big.Int {
	sum := sha512.Sum512(slices.Concat(front[:], key[:], message))
	n := numberOf(sum[:])
	return n.Mod(n, groupOrder())
}

// joined is the signature of these halves.
func joined(front [32]byte, s *big.Int) api.Sig {
	back := bytesOf(s)
	return api.Sig(slices.Concat(front[:], back[:]))
}

// withSecond is a signature with another second half.
func withSecond(sig api.Sig, s *big.Int) api.Sig { return joined([32]byte(sig[:32]), s) }

// wantKnown: whether these are a point's bytes, by the curve's formula: x^2 is (y^2 - 1) / (d y^2 + 1).
func wantKnown(key api.Key) bool {
	p, y := prime(), numberOf(key[:])
	high := y.Bit(255) == 1
	y.SetBit(y, 255, 0)
	if y.Cmp(p) >= 0 {
		return false
	}
	square := new(big.Int).Mul(y, y)
	d := new(big.Int).Mul(big.NewInt(-121665), new(big.Int).ModInverse(big.NewInt(121666), p))
	under := add(d.Mul(d, square), 1)
	x := add(square, -1)
	x.Mul(x, under.ModInverse(under.Mod(under, p), p)).Mod(x, p)
	if x.Sign() == 0 {
		return !high
	}
	return big.Jacobi(x, p) == 1
}

// wantVerify: the library's word, and that the key is a point's bytes, which the library doesn't ask whole.
func wantVerify(key api.Key, sig api.Sig, message []byte) bool {
	return wantKnown(key) && ed25519.Verify(key[:], message, sig[:])
}

// librarySign is the library's key and signature.
func librarySign(seed api.Seed, message []byte) (api.Key, api.Sig) {
	private := ed25519.NewKeyFromSeed(seed[:])
	return api.Key(private[32:]), api.Sig(ed25519.Sign(private, message))
}

// checkSign: the seed's key and its signature are the library's, and that is right.
func checkSign(t *testing.T, seed api.Seed, message []byte) (api.Key, api.Sig) {
	t.Helper()
	key, sig := librarySign(seed, message)
	if got := Public(seed); got != key {
		t.Errorf("Public of %x: %x, not %x", seed, got, key)
	}
	if got := Sign(seed, message); got != sig {
		t.Errorf("Sign by %x of %d bytes: %x, not %x", seed, len(message), got, sig)
	}
	checkVerify(t, key, sig, message, true)
	return key, sig
}

// checkVerify: Verify says this, and so does the model.
func checkVerify(t *testing.T, key api.Key, sig api.Sig, message []byte, want bool) {
	t.Helper()
	if got := Verify(key, sig, message); got != want {
		t.Errorf("Verify of %x, %x, %d bytes: %v", key, sig, len(message), got)
	}
	if wantVerify(key, sig, message) != want {
		t.Errorf("the model of Verify of %x, %x, %d bytes: %v", key, sig, len(message), !want)
	}
}

// bytesOfText is bytes told in hex.
func bytesOfText(s string) []byte {
	b, _ := hex.DecodeString(s)
	return b
}

// turns are the points that come back to Zero after 1, 2, 4 or 8 times: the one at i is the one at 1, i times.
func turns() [8][32]byte {
	var l [8][32]byte
	for i, s := range []string{
		"0100000000000000000000000000000000000000000000000000000000000000",
		"c7176a703d4dd84fba3c0b760d10670f2a2053fa2c39ccc64ec7fd7792ac037a",
		"0000000000000000000000000000000000000000000000000000000000000080",
		"26e8958fc2b227b045c3f489f2ef98f0d5dfac05d3c63339b13802886d53fc05",
		"ecffffffffffffffffffffffffffffffffffffffffffffffffffffffffffff7f",
		"26e8958fc2b227b045c3f489f2ef98f0d5dfac05d3c63339b13802886d53fc85",
		"0000000000000000000000000000000000000000000000000000000000000000",
		"c7176a703d4dd84fba3c0b760d10670f2a2053fa2c39ccc64ec7fd7792ac03fa",
	} {
		l[i] = [32]byte(bytesOfText(s))
	}
	return l
}

// alias is bytes that are no point's, but that one who looks less closely takes for a point that comes back.
type alias struct {
	bytes [32]byte
	turn  int // which of turns
}

// aliases are all of these: second coordinates 0 and 1 with p more, and first coordinates 0 with the highest bit set.
func aliases() []alias {
	p, high := prime(), power2(255)
	with := func(n *big.Int) *big.Int { return new(big.Int).Add(n, high) }
	return []alias{
		{bytesOf(p), 6},
		{bytesOf(with(p)), 2},
		{bytesOf(add(p, 1)), 0},
		{bytesOf(with(add(p, 1))), 0},
		{bytesOf(with(big.NewInt(1))), 0},
		{bytesOf(with(add(p, -1))), 4},
	}
}

// back is which of turns is the one at i, times less than no times.
func back(i int, times *big.Int) int {
	n := new(big.Int).Mul(times, big.NewInt(int64(-i)))
	return int(n.Mod(n, big.NewInt(8)).Int64())
}

// point is the point of bytes.
func point(t *testing.T, b [32]byte) curve.Point {
	t.Helper()
	p, ok := curve.Decode(b)
	if !ok {
		t.Fatalf("%x are no point's bytes", b)
	}
	return p
}

// TestModel: the points that come back stand in their order, and the aliases are no point's bytes.
func TestModel(t *testing.T) {
	one := point(t, turns()[1])
	for i, b := range turns() {
		if one.Mul([32]byte{byte(i)}).Bytes() != b || one.Mul([32]byte{byte(i + 8)}).Bytes() != b {
			t.Errorf("%d times", i)
		}
	}
	for _, a := range aliases() {
		if wantKnown(a.bytes) || !wantKnown(turns()[a.turn]) {
			t.Errorf("%x", a.bytes)
		}
	}
}

// chance makes numbers, always the same ones.
func chance() *rand.Rand { return rand.New(rand.NewPCG(7, 8032)) }

// some are any bytes.
func some(r *rand.Rand, n int) []byte {
	b := make([]byte, n)
	for i := range b {
		b[i] = byte(r.Uint32())
	}
	return b
}
