package entry

import (
	"encoding/binary"
	"math"
	"math/rand/v2"
	"slices"
	"testing"

	"dioptre/api"
	"dioptre/trial"
)

// TestName: P17.1: SHA-256 of any bytes, which needn't be an entry's, however many.
func TestName(t *testing.T) {
	r := chance()
	abc := api.Hash{0xba, 0x78, 0x16, 0xbf, 0x8f, 0x01, 0xcf, 0xea, 0x41, 0x41, 0x40, 0xde, 0x5d, 0xae, 0x22, 0x23, 0xb0, 0x03, 0x61, 0xa3, 0x96, 0x17, 0x7a, 0x9c, 0xb4, 0x10, 0xff, 0x61, 0xf2, 0x00, 0x15, 0xad}
	if Name([]byte("abc")) != abc || Name(nil) != wantName(nil) || Name([]byte{}) != wantName(nil) {
		t.Errorf("Name of abc, of nothing: %x, %x", Name([]byte("abc")), Name(nil))
	}
	for _, n := range []int{1, 31, 32, 55, 56, 63, 64, 65, 130, 4096, 4097, 100000} {
		b := some(r, n)
		kept := slices.Clone(b)
		if got := Name(b); got != wantName(b) || !slices.Equal(b, kept) {
			t.Errorf("Name of %d bytes: %x", n, got)
		}
	}
	for _, c := range entryBytes {
		e, _ := Decode([]byte(c.b))
		again, _ := Encode(e)
		if Name([]byte(c.b)) != wantName([]byte(c.b)) || Name(again) != Name([]byte(c.b)) {
			t.Errorf("Name of %x", c.b)
		}
	}
}

// TestLess: P17.4: byte by byte, the first that isn't the same; bytes are numbers from 0 to 255.
func TestLess(t *testing.T) {
	l := rising()
	for i, a := range l {
		for k, b := range l {
			if Less(a, b) != (i < k) {
				t.Errorf("Less of %x, %x: %v", a, b, Less(a, b))
			}
		}
	}
	for i := range 32 {
		a, b := hash(5, 5), hash(5, 5)
		a[i], b[i] = 127, 128
		for k := i + 1; k < 32; k++ {
			a[k], b[k] = 9, 3
		}
		if !Less(a, b) || Less(b, a) || Less(a, a) || Less(b, b) {
			t.Errorf("at %d: %v, %v", i, Less(a, b), Less(b, a))
		}
	}
	r := chance()
	for range 20000 {
		a, b := someHash(r), someHash(r)
		if Less(a, b) != trial.Ahead(a, b) || Less(a, b) && Less(b, a) || !Less(a, b) && !Less(b, a) && a != b {
			t.Fatalf("Less of %x, %x: %v", a, b, Less(a, b))
		}
	}
}

// checkSort: Sort tells what the model tells, in new memory, and changes nothing.
func checkSort(t *testing.T, l []api.Hash) {
	t.Helper()
	all := append(slices.Clone(l), hash(98, 98), hash(99, 99))
	kept, want := slices.Clone(all), trial.Sorted(l, trial.Ahead)
	got := Sort(all[:len(l)]...)
	if !slices.Equal(got, want) || !slices.Equal(all, kept) {
		t.Errorf("Sort of %x: %x", l, got)
	}
	got = got[:cap(got)]
	for i := range got {
		got[i] = hash(77, 77)
	}
	if !slices.Equal(all, kept) || !slices.Equal(Sort(all[:len(l)]...), want) {
		t.Errorf("Sort of %x has kept it, or shares with it", l)
	}
}

// TestSort: P17.4: all names, those that are ahead first, each once.
func TestSort(t *testing.T) {
	if len(Sort()) > 0 || len(Sort([]api.Hash{}...)) > 0 {
		t.Error("Sort of none:", Sort())
	}
	l := rising()
	back := slices.Clone(l)
	slices.Reverse(back)
	for _, l := range [][]api.Hash{nil, {}, l[:1], l[1:2], l[:2], {l[1], l[0]}, {l[1], l[1]}, {l[0], l[0], l[0]}, {l[2], l[1], l[2]}, {l[5], l[4]}, l, back, slices.Concat(l, back), slices.Repeat(l, 3)} {
		checkSort(t, l)
	}
	r := chance()
	for range 3000 {
		checkSort(t, someHashes(r, r.IntN(12)))
	}
	checkSort(t, someHashes(r, 1000))
	many := make([]api.Hash, 200000)
	for i := range many {
		binary.BigEndian.PutUint64(many[i][24:], uint64(i*7919%199999))
	}
	sorted := Sort(many...)
	if len(sorted) != 199999 || sorted[0] != (api.Hash{}) || !slices.IsSortedFunc(sorted, func(a, b api.Hash) int { return slices.Compare(a[:], b[:]) }) {
		t.Error("Sort of many:", len(sorted))
	}
}

// someHashes are names, many of them alike.
func someHashes(r *rand.Rand, n int) []api.Hash {
	var l []api.Hash
	for range n {
		l = append(l, someHash(r))
	}
	return l
}

// TestSeed: P17.4: the number of the first 8 bytes, the highest one first; the others don't count.
func TestSeed(t *testing.T) {
	var most api.Hash
	for i := range 8 {
		most[i] = 255
		var h api.Hash
		h[i] = 129
		if got := Seed(h); got != 129<<(56-8*i) {
			t.Errorf("the byte %d: %x", i, got)
		}
	}
	if got := Seed(most); got != math.MaxUint64 {
		t.Errorf("the greatest one: %x", got)
	}
	if got := Seed(api.Hash{1, 2, 3, 4, 5, 6, 7, 8, 9, 10}); got != 0x0102030405060708 {
		t.Errorf("all: %x", got)
	}
	if Seed(api.Hash{}) != 0 || Seed(api.Hash{8: 255, 31: 255}) != 0 || Seed(api.Hash{7: 1, 8: 255}) != 1 {
		t.Error("what stands behind counts")
	}
	r := chance()
	for range 1000 {
		h := api.Hash(some(r, 32))
		if Seed(h) != binary.BigEndian.Uint64(h[:]) {
			t.Errorf("%x: %x", h, Seed(h))
		}
	}
}
