package sign

import (
	"math/rand/v2"
	"slices"
	"testing"

	"dioptre/api"
)

// sample is a seed, its key, and its signature of a message, told in hex.
type sample struct{ seed, key, message, sig string }

// samples are tests of RFC 8032: 1, 2, 3, and that of the SHA-512 of abc.
func samples() []sample {
	return []sample{
		{
			"9d61b19deffd5a60ba844af492ec2cc44449c5697b326919703bac031cae7f60",
			"d75a980182b10ab7d54bfed3c964073a0ee172f3daa62325af021a68f707511a",
			"",
			"e5564300c360ac729086e2cc806e828a84877f1eb8e5d974d873e065224901555fb8821590a33bacc61e39701cf9b46bd25bf5f0595bbe24655141438e7a100b",
		}, {
			"4ccd089b28ff96da9db6c346ec114e0f5b8a319f35aba624da8cf6ed4fb8a6fb",
			"3d4017c3e843895a92b70aa74d1b7ebc9c982ccf2ec4968cc0cd55f12af4660c",
			"72",
			"92a009a9f0d4cab8720e820b5f642540a2b27b5416503f8fb3762223ebdb69da085ac1e43e15996e458f3613d0f11d8c387b2eaeb4302aeeb00d291612bb0c00",
		}, {
			"c5aa8df43f9f837bedb7442f31dcb7b166d38535076f094b85ce3a2e0b4458f7",
			"fc51cd8e6218a1a38da47ed00230f0580816ed13ba3303ac5deb911548908025",
			"af82",
			"6291d657deec24024827e69c3abe01a30ce548a284743a445e3680d7db5ac3ac18ff9b538d16f290ae67f760984dc6594a7c15e9716ed28dc027beceea1ec40a",
		}, {
			"833fe62409237b9d62ec77587520911e9a759cec1d19755b7da901b96dca3d42",
			"ec172b93ad5e563bf4932c70e1245034c35467ef2efd4d64ebf819683467e2bf",
			"ddaf35a193617abacc417349ae20413112e6fa4e89a97ea20a9eeee64b55d39a2192992a274fc1a836ba3c23a3feebbd454d4423643ce80e2a9ac94fa54ca49f",
			"dc2a4459e7369633a52b1bf277839a00201009a3efbf3ecb69bea2186c26b58909351fc9ac90b3ecfdfbc7c66431e0303dca179c138ac17ad9bef1177331a704",
		},
	}
}

// firstSample is the seed of RFC 8032's first test, its key, and its signature of the empty message.
func firstSample() (api.Seed, api.Key, api.Sig) {
	c := samples()[0]
	return api.Seed(bytesOfText(c.seed)), api.Key(bytesOfText(c.key)), api.Sig(bytesOfText(c.sig))
}

// TestSamples: P7.1, P7.2: seeds, keys and signatures that others have told.
func TestSamples(t *testing.T) {
	for _, c := range samples() {
		seed, message := api.Seed(bytesOfText(c.seed)), bytesOfText(c.message)
		key, sig := checkSign(t, seed, message)
		if key != api.Key(bytesOfText(c.key)) || sig != api.Sig(bytesOfText(c.sig)) {
			t.Errorf("the library's key and signature: %x, %x", key, sig)
		}
		if !Known(key) {
			t.Errorf("%x isn't known", key)
		}
	}
}

// TestEmptyMessage: P7.1, P7.2: of no part, of nil, of parts without a byte.
func TestEmptyMessage(t *testing.T) {
	seed, key, sig := firstSample()
	for i, l := range [][][]byte{nil, {}, {nil}, {{}}, {nil, {}, nil}, slices.Repeat([][]byte{{}}, 100)} {
		if Sign(seed, l...) != sig || !Verify(key, sig, l...) {
			t.Errorf("list %d: %x, %v", i, Sign(seed, l...), Verify(key, sig, l...))
		}
		if other := slices.Concat(l, [][]byte{{0}}); Sign(seed, other...) == sig || Verify(key, sig, other...) {
			t.Errorf("list %d and a nought: %x, %v", i, Sign(seed, other...), Verify(key, sig, other...))
		}
	}
	if Sign(seed) != sig || !Verify(key, sig) {
		t.Error("no part")
	}
}

// TestSeeds: P7.1, P7.3: any seeds, with any messages.
func TestSeeds(t *testing.T) {
	r := chance()
	for n := range 150 {
		checkSign(t, api.Seed(some(r, 32)), some(r, n))
	}
	var most api.Seed
	for i := range most {
		most[i] = 0xff
		checkSign(t, most, []byte{byte(i)})
		var one api.Seed
		one[i] = 1
		checkSign(t, one, nil)
	}
	checkSign(t, api.Seed{}, nil)
}

// TestLengths: P7.1, P7.2, P7.3: messages that fill a block nearly, just, and more, alone and with what stands ahead of them.
func TestLengths(t *testing.T) {
	r, seed := chance(), api.Seed{7}
	lengths := []int{1000, 1024, 4096, 70000}
	for _, ahead := range []int{0, 32, 64} {
		for _, n := range []int{111, 112, 127, 128, 129, 239, 240, 255, 256, 257} {
			lengths = append(lengths, n-ahead)
		}
	}
	for n := range 140 {
		lengths = append(lengths, n)
	}
	for _, n := range lengths {
		message := some(r, n)
		key, sig := checkSign(t, seed, message)
		checkVerify(t, key, sig, append(message, 0), false)
	}
}

// cut is a message in parts, some of them nil or empty.
func cut(r *rand.Rand, message []byte) [][]byte {
	var l [][]byte
	for len(message) > 0 {
		switch r.IntN(4) {
		case 0:
			l = append(l, nil)
		case 1:
			l = append(l, []byte{})
		}
		n := r.IntN(len(message) + 1)
		l = append(l, message[:n])
		message = message[n:]
	}
	return append(l, nil)
}

// TestParts: P7.1, P7.2: the same bytes in other parts have the same signature, which is right in whatever parts they come.
func TestParts(t *testing.T) {
	r := chance()
	for n := range 60 {
		seed, message := api.Seed(some(r, 32)), some(r, 5*n)
		key, sig := checkSign(t, seed, message)
		for range 3 {
			l, other := cut(r, message), cut(r, message)
			if Sign(seed, l...) != sig || !Verify(key, sig, l...) || !Verify(key, sig, other...) {
				t.Errorf("%x: %x, %v, %v", message, Sign(seed, l...), Verify(key, sig, l...), Verify(key, sig, other...))
			}
			slices.Reverse(l)
			if whole := slices.Concat(l...); Verify(key, sig, l...) != slices.Equal(whole, message) || Sign(seed, l...) != Sign(seed, whole) {
				t.Errorf("%x, the last part first", message)
			}
		}
	}
}

// TestEachCut: P7.1, P7.2: a message in two parts, and in parts of one byte.
func TestEachCut(t *testing.T) {
	message := some(chance(), 130)
	key, sig := checkSign(t, api.Seed{1}, message)
	var each [][]byte
	for i := range len(message) + 1 {
		if Sign(api.Seed{1}, message[:i], message[i:]) != sig || !Verify(key, sig, message[:i], message[i:]) {
			t.Errorf("cut at %d", i)
		}
		if i < len(message) {
			each = append(each, message[i:i+1])
		}
	}
	if Sign(api.Seed{1}, each...) != sig || !Verify(key, sig, each...) {
		t.Error("bytes one by one")
	}
	if twice := slices.Repeat([][]byte{message}, 3); Sign(api.Seed{1}, twice...) != Sign(api.Seed{1}, slices.Concat(twice...)) {
		t.Error("the same part three times")
	}
}

// TestOthers: P7.1: another seed and another message have another signature; the same ones have the same one, as often as one asks.
func TestOthers(t *testing.T) {
	r := chance()
	keys, sigs := map[api.Key]bool{}, map[api.Sig]bool{}
	for range 20 {
		seed := api.Seed(some(r, 32))
		keys[Public(seed)] = true
		for _, message := range [][]byte{nil, {0}, {1}, {0, 0}} {
			sigs[Sign(seed, message)] = true
			if Sign(seed, message) != Sign(seed, message) || Public(seed) != Public(seed) {
				t.Errorf("%x, asked again", seed)
			}
		}
	}
	if len(keys) != 20 || len(sigs) != 80 {
		t.Errorf("%d keys, %d signatures", len(keys), len(sigs))
	}
}

// TestKeeps: what is handed in stays as it is, its spare room too, and isn't kept.
func TestKeeps(t *testing.T) {
	seed, key, _ := firstSample()
	bytes := []byte("abcdefghijklmnopqrstuvwxyz")
	list := [][]byte{bytes[:3], bytes[3:3], bytes[10:12:26], bytes[20:], nil, bytes[5:6]}
	wantBytes, wantList := slices.Clone(bytes), slices.Clone(list)
	sig := Sign(seed, list[:3]...)
	if sig != Sign(seed, []byte("abckl")) || !Verify(key, sig, list[:3]...) || Verify(key, sig, list...) {
		t.Errorf("%x", sig)
	}
	if !slices.Equal(bytes, wantBytes) {
		t.Errorf("the bytes are %s", bytes)
	}
	for i, b := range wantList {
		if (b == nil) != (list[i] == nil) || len(b) != len(list[i]) || cap(b) != cap(list[i]) || cap(b) > 0 && &b[:1][0] != &list[i][:1][0] {
			t.Errorf("part %d of the list is another one", i)
		}
	}
	clear(bytes)
	if sig != Sign(seed, []byte("abckl")) || !Verify(key, sig, []byte("abckl")) || Verify(key, sig, list[:3]...) {
		t.Error("what was handed in was kept")
	}
}
