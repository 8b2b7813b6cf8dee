package dag

import (
	"math/rand/v2"
	"slices"
	"testing"

	"dioptre/api"
	"dioptre/entry"
	"dioptre/sample"
)

// someBytes are bytes of an entry, mostly of such that may be stored behind those there are; some of its parents may be entries that don't come.
func someBytes(r *rand.Rand, there, lost []api.Hash) []byte {
	var parents []api.Hash
	for range []int{0, 1, 1, 2, 3, 4}[r.IntN(6)] {
		if len(there) > 0 {
			// Mostly one of the last.
			k := r.IntN(len(there))
			parents = append(parents, there[max(k, r.IntN(len(there)))])
		}
	}
	if len(lost) > 0 && r.IntN(8) == 0 {
		parents = append(parents, lost[r.IntN(len(lost))])
	}
	parents = sorted(parents)
	parents = parents[:min(len(parents), 4)]
	e := api.Entry{Kind: api.Write + r.IntN(2), Version: sample.SomeHash(r.IntN), Parents: parents}
	seed := []api.Seed{writer, both, writer, both, stranger, admin}[r.IntN(6)]
	if e.Kind == api.Write {
		s := sample.SomeSchema(r.IntN, 3)
		e.Op = sample.SomeOp(r.IntN, s, sample.SomeFit(r.IntN, s))
	} else {
		e.Lens = sample.SomeLens(r.IntN, sample.SomeRecord(r.IntN), 3)
		seed = []api.Seed{admin, both, admin, both, stranger, writer}[r.IntN(6)]
	}
	return signedBy(seed, e)
}

// spoilt are the same bytes, mostly; else such as were changed, cut off or made more.
func spoilt(r *rand.Rand, b []byte) []byte {
	b = slices.Clone(b)
	switch r.IntN(20) {
	case 0:
		b[r.IntN(len(b))] ^= 1 << r.IntN(8)
	case 1:
		b = b[:r.IntN(len(b))]
	case 2:
		b = append(b, byte(r.IntN(3)))
	}
	return b
}

// TestAny: P19.2, P19.3, P19.4: whatever comes, in whatever order, a store is as the model says, behind each step; it never shrinks.
func TestAny(t *testing.T) {
	r := chance()
	codes, depths := map[api.Errno]int{}, map[int]int{}
	for range 60 {
		s, m := storeOf(t, []int{1, 3, 12, 12, 20, 20, 64}[r.IntN(7)])
		var came [][]byte
		var there, lost []api.Hash
		for range 25 {
			b := spoilt(r, someBytes(r, there, lost))
			if len(came) > 0 && r.IntN(5) == 0 {
				b = came[r.IntN(len(came))]
			}
			came = append(came, b)
			before := s.Len()
			code := checkAdd(t, "any", s, m, b)
			if codes[code]++; code == api.OK {
				there = append(there, nameOf(b))
			} else {
				lost = append(lost, nameOf(b))
			}
			if s.Len() < before || s.Len() > m.g.Most {
				t.Errorf("Len: %d, then %d", before, s.Len())
			}
			checkAncestors(t, "any", s, m, append(there[:r.IntN(len(there)+1):len(there)], lost[:min(2, len(lost))]...)...)
		}
		checkStore(t, "any", s, m, lost...)
		checkLine(t, s)
		for _, b := range came {
			checkMissing(t, "any", s, m, b, wantMissing(m, b)...)
		}
		if l := s.Line(); len(l) > 0 {
			depths[l[len(l)-1].Depth]++
		}
		if t.Failed() {
			return
		}
	}
	for _, code := range []api.Errno{api.OK, api.ErrTwice, api.ErrKey, api.ErrSign, api.ErrParent, api.ErrFull, api.ErrForm} {
		if codes[code] < 10 {
			t.Errorf("%v", codes)
		}
	}
	if len(depths) < 5 {
		t.Errorf("%v", depths)
	}
}

// wantMissing: the parents of bytes that lack, in order.
func wantMissing(m *model, b []byte) []api.Hash {
	e, err := entry.Decode(b)
	if err != nil {
		return nil
	}
	return m.lacking(e.Parents)
}

// checkLine: P19.4: each entry's parents are stored, and stand ahead of it.
func checkLine(t *testing.T, s *Store) {
	t.Helper()
	var ahead []api.Hash
	for _, m := range s.Line() {
		e, _ := s.Entry(m.Id)
		for _, h := range e.Parents {
			if !slices.Contains(ahead, h) {
				t.Errorf("a parent of %x stands behind it", m.Id)
			}
		}
		ahead = append(ahead, m.Id)
	}
}

// TestAnyOrder: P19.4: stores of the same entries are the same, in whatever order these came; what lacks a parent comes again.
func TestAnyOrder(t *testing.T) {
	r := chance()
	for range 12 {
		s, m := storeOf(t, 14)
		var came [][]byte
		var there []api.Hash
		for len(came) < 14 {
			b := someBytes(r, there, nil)
			if m.wrong(b).Code == api.OK {
				addAll(t, s, m, b)
				came, there = append(came, b), append(there, nameOf(b))
			}
		}
		for range 6 {
			r.Shuffle(len(came), func(i, k int) { came[i], came[k] = came[k], came[i] })
			other, _ := storeOf(t, 14)
			for other.Len() < len(came) {
				before := other.Len()
				for _, b := range came {
					other.Add(b)
				}
				if other.Len() == before {
					t.Fatal("no more comes:", before)
				}
			}
			checkStore(t, "in another order", other, m)
			checkSame(t, s, other)
		}
	}
}

// checkSame: P19.4: two stores tell the same of all their entries.
func checkSame(t *testing.T, a, b *Store) {
	t.Helper()
	if !slices.Equal(a.Line(), b.Line()) || !slices.Equal(a.Heads(), b.Heads()) || !slices.Equal(a.Deepest(2), b.Deepest(2)) || a.Len() != b.Len() {
		t.Errorf("Line, Heads, Deepest, Len: %v, %v", a.Line(), b.Line())
	}
	for _, m := range a.Line() {
		x, _ := a.Bytes(m.Id)
		y, _ := b.Bytes(m.Id)
		if !slices.Equal(x, y) || !slices.Equal(a.Ancestors(m.Id), b.Ancestors(m.Id)) {
			t.Errorf("Bytes, Ancestors of %x", m.Id)
		}
	}
}
