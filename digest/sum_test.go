package digest

import (
	"bytes"
	"crypto/sha256"
	"crypto/sha512"
	"encoding"
	"encoding/binary"
	"encoding/hex"
	"hash"
	"slices"
	"strings"
	"testing"
)

// known are messages whose sums FIPS 180 and its examples tell.
var known = []struct {
	name, message, sum256, sum512 string
}{
	{
		"nothing", "",
		"e3b0c44298fc1c149afbf4c8996fb92427ae41e4649b934ca495991b7852b855",
		"cf83e1357eefb8bdf1542850d66d8007d620e4050b5715dc83f4a921d36ce9ce47d0d13c5d85f2b0ff8318d2877eec2f63b931bd47417a81a538327af927da3e",
	},
	{
		"abc", "abc",
		"ba7816bf8f01cfea414140de5dae2223b00361a396177a9cb410ff61f20015ad",
		"ddaf35a193617abacc417349ae20413112e6fa4e89a97ea20a9eeee64b55d39a2192992a274fc1a836ba3c23a3feebbd454d4423643ce80e2a9ac94fa54ca49f",
	},
	{
		"two blocks of 64", "abcdbcdecdefdefgefghfghighijhijkijkljklmklmnlmnomnopnopq",
		"248d6a61d20638b8e5c026930c3e6039a33ce45964ff2167f6ecedd419db06c1",
		"204a8fc6dda82f0a0ced7beb8e08a41657c16ef468b228a8279be331a703c33596fd15c13b1b07f9aa1d3bea57789ca031ad85c7a71dd70354ec631238ca3445",
	},
	{
		"two blocks of 128", "abcdefghbcdefghicdefghijdefghijkefghijklfghijklmghijklmnhijklmnoijklmnopjklmnopqklmnopqrlmnopqrsmnopqrstnopqrstu",
		"cf5b16a778af8380036ce59e7b0492370b249b11e8f07a51afac45037afee9d1",
		"8e959b75dae313da8cf4f72814fc143f8f7779c6eb9f7fa17299aeadb6889018501d289e4900f7e4331b99dec4b5433ac7d329eeb6dd26545e96e55b874be909",
	},
	{
		"a million times a", strings.Repeat("a", 1000000),
		"cdc76e5c9914fb9281a1c7e284d73e67f1809a48a497200e046d39ccc7112cd0",
		"e718483d0ce769644e2e42c7bc15b4638e1f98b13b2044285632a803afa973ebde0ff244877ea60a4cb0432ce577c31beb009c5c2c49aa2e4eadb217ad8cc09b",
	},
}

// edges are lengths that just fit a block of 64 or 128, filled up or not, or don't any more.
var edges = []int{0, 1, 54, 55, 56, 57, 63, 64, 65, 110, 111, 112, 113, 119, 120, 127, 128, 129, 191, 192, 193, 239, 240, 255, 256, 257}

// message is n bytes, always the same ones, of all values.
func message(n int) []byte {
	b := make([]byte, n)
	state := uint32(2*n + 1)
	for i := range b {
		state = state*1664525 + 1013904223
		b[i] = byte(state >> 24)
	}
	return b
}

// checkSums: both sums of these parts are those of what they are together.
func checkSums(t *testing.T, name string, l ...[]byte) {
	t.Helper()
	whole := slices.Concat(l...)
	if got, want := Sum256(l...), sha256.Sum256(whole); got != want {
		t.Errorf("%s: Sum256 is %x, not %x", name, got, want)
	}
	if got, want := Sum512(l...), sha512.Sum512(whole); got != want {
		t.Errorf("%s: Sum512 is %x, not %x", name, got, want)
	}
}

// TestKnownSums: P3.1: messages whose sums are known.
func TestKnownSums(t *testing.T) {
	for _, c := range known {
		b256, b512 := Sum256([]byte(c.message)), Sum512([]byte(c.message))
		if got := hex.EncodeToString(b256[:]); got != c.sum256 {
			t.Errorf("Sum256 of %s: %s", c.name, got)
		}
		if got := hex.EncodeToString(b512[:]); got != c.sum512 {
			t.Errorf("Sum512 of %s: %s", c.name, got)
		}
	}
}

// TestLengths: P3.1: messages of each length, up to many blocks.
func TestLengths(t *testing.T) {
	for n := range 700 {
		checkSums(t, "bytes of the same value", bytes.Repeat([]byte{byte(n)}, n))
		checkSums(t, "bytes of any value", message(n))
	}
	for _, n := range edges {
		checkSums(t, "noughts", make([]byte, n))
		checkSums(t, "ones", bytes.Repeat([]byte{0xff}, n))
	}
	for _, n := range []int{4095, 4096, 4097, 8191, 8192, 1 << 16, 1<<16 + 55, 1<<16 + 56, 1<<16 + 111, 1<<16 + 112} {
		checkSums(t, "many blocks", message(n))
	}
}

// pretend is a hash of the library that has had n bytes, or so it holds: as many as would take long to write.
func pretend(t *testing.T, h hash.Hash, n int) hash.Hash {
	t.Helper()
	b, e := h.(encoding.BinaryMarshaler).MarshalBinary()
	if e != nil {
		t.Fatal(e)
	}
	b = binary.BigEndian.AppendUint64(b[:len(b)-8], uint64(n)) // how many bytes came stands at the end
	if e := h.(encoding.BinaryUnmarshaler).UnmarshalBinary(b); e != nil {
		t.Fatal(e)
	}
	return h
}

// TestManyBits: P3.1: how many bits there are takes more than 32, where there are 2^29 bytes.
func TestManyBits(t *testing.T) {
	for _, n := range []int{1<<28 - 128, 1<<29 - 128, 1 << 29, 1<<31 - 128, 3 << 40} {
		for _, rest := range []int{0, 1, 55, 56, 64, 111, 112, 127} {
			s, big := New(), start[uint64]()
			s.state.size, big.size = n, n
			want256, want512 := pretend(t, sha256.New(), n), pretend(t, sha512.New(), n)
			b := message(rest)
			s.Write(b)
			big.take(b)
			want256.Write(b)
			want512.Write(b)
			if got := s.Sum(); !bytes.Equal(got[:], want256.Sum(nil)) || s.Size() != n+rest {
				t.Errorf("SHA-256 of %d bytes, and %d: %x", n, rest, got)
			}
			var got [64]byte
			spread(big.end(), got[:])
			if !bytes.Equal(got[:], want512.Sum(nil)) {
				t.Errorf("SHA-512 of %d bytes, and %d: %x", n, rest, got)
			}
		}
	}
}

// TestNoParts: P3.1: no bytes, in no parts, nil parts and empty ones.
func TestNoParts(t *testing.T) {
	checkSums(t, "no parts")
	checkSums(t, "a nil list", [][]byte(nil)...)
	checkSums(t, "a nil part", nil)
	checkSums(t, "an empty part", []byte{})
	checkSums(t, "nil and empty parts", nil, []byte{}, nil, nil, []byte{})
	checkSums(t, "nil parts between", nil, []byte("ab"), nil, []byte{}, []byte("c"), nil)
}

// TestParts: P3.1: parts that end at any place of a block.
func TestParts(t *testing.T) {
	for _, n := range edges {
		b := message(n)
		for i := range n + 1 {
			checkSums(t, "two parts", b[:i], b[i:])
		}
		checkSums(t, "parts of one byte", slices.Collect(slices.Chunk(b, 1))...)
		checkSums(t, "parts of seven bytes", slices.Collect(slices.Chunk(b, 7))...)
	}
	b := message(260)
	for i := 0; i <= len(b); i += 3 {
		for j := i; j <= len(b); j += 5 {
			checkSums(t, "three parts", b[:i], b[i:j], b[j:])
		}
	}
	// Where one part ends and the next begins, can't be told from the sum; their order can.
	if Sum256([]byte("ab"), []byte("c")) != Sum256([]byte("a"), []byte("bc")) || Sum512([]byte("ab"), []byte("c")) != Sum512([]byte("a"), []byte("bc")) {
		t.Error("parts of the same bytes")
	}
	if Sum256([]byte("a"), []byte("b")) == Sum256([]byte("b"), []byte("a")) || Sum512([]byte("a"), []byte("b")) == Sum512([]byte("b"), []byte("a")) {
		t.Error("parts in another order")
	}
}

// TestSumsHandedIn: parts are neither changed nor kept, nor their spare room; they may lie one in another.
func TestSumsHandedIn(t *testing.T) {
	b := message(300)
	kept := slices.Clone(b)
	l := [][]byte{b[:100], b[50:130], b[:100], b[299:]}
	checkSums(t, "parts that overlap", l...)
	first256, first512 := Sum256(b[:55]), Sum512(b[:111])
	if !bytes.Equal(b, kept) || len(l) != 4 || &l[1][0] != &b[50] {
		t.Error("what was handed in has changed")
	}
	clear(b)
	if Sum256(kept[:55]) != first256 || Sum512(kept[:111]) != first512 {
		t.Error("one sum hangs on another one")
	}
}
