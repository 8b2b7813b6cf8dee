package dag

import (
	"math"
	"reflect"
	"slices"
	"testing"

	"dioptre/api"
	"dioptre/trial"
)

// checkAdd: Add tells what the model tells; bytes that are handed in stay, their spare room, too. It tells what was wrong.
func checkAdd(t *testing.T, name string, s *Store, m *model, b []byte) api.Errno {
	t.Helper()
	all := append(slices.Clone(b), 7, 8, 9)
	kept := slices.Clone(all)
	got, err := s.Add(all[:len(b)])
	want, w := m.add(b)
	trial.Error(t, name+": Add", err, w)
	if got != want || !slices.Equal(all, kept) {
		t.Errorf("%s: Add: %v, not %v", name, got, want)
	}
	clear(all)
	return w.Code
}

// checkStore: all that can be told of a store is as the model tells it, of these names, too, of which there mostly is no entry.
func checkStore(t *testing.T, name string, s *Store, m *model, more ...api.Hash) {
	t.Helper()
	whole := m.line(func(item) bool { return true })
	if got := s.Line(); !slices.Equal(got, whole) {
		t.Errorf("%s: Line: %v, not %v", name, got, whole)
	}
	if s.Len() != len(m.all) || !sameGenesis(s.Genesis(), m.g) {
		t.Errorf("%s: Len, Genesis: %d, %v", name, s.Len(), s.Genesis())
	}
	for _, h := range append(namesOf(whole), more...) {
		checkEntry(t, name, s, m, h)
	}
	checkHeads(t, name, s, m)
	checkAncestors(t, name, s, m, more...)
}

// checkEntry: all that is told of one name.
func checkEntry(t *testing.T, name string, s *Store, m *model, h api.Hash) {
	t.Helper()
	want, there := m.find(h)
	b, ok := s.Bytes(h)
	e, ok2 := s.Entry(h)
	if !slices.Equal(b, want.b) || ok != there || !reflect.DeepEqual(plain(e), plain(want.e)) || ok2 != there {
		t.Errorf("%s: Bytes, Entry: %x %v, %v %v, not %x, %v %v", name, b, ok, e, ok2, want.b, want.e, there)
	}
	if s.Has(h) != there || s.Depth(h) != want.depth {
		t.Errorf("%s: Has, Depth: %v, %d, not %v, %d", name, s.Has(h), s.Depth(h), there, want.depth)
	}
	checkAncestors(t, name, s, m, h)
	checkMissing(t, name, s, m, want.b)
}

// checkHeads: the heads, and the deepest of them, however many are asked for.
func checkHeads(t *testing.T, name string, s *Store, m *model) {
	t.Helper()
	heads := m.heads()
	if got := s.Heads(); !slices.Equal(got, sorted(namesOf(heads))) {
		t.Errorf("%s: Heads: %x, not %x", name, got, namesOf(heads))
	}
	numbers := []int{math.MinInt, -2, -1, math.MaxInt - 1, math.MaxInt}
	for n := range len(heads) + 3 {
		numbers = append(numbers, n)
	}
	for _, n := range numbers {
		want := heads
		switch {
		case n < 1:
			want = nil
		case n < len(heads):
			want = heads[len(heads)-n:]
		}
		if got := s.Deepest(n); !slices.Equal(got, sorted(namesOf(want))) {
			t.Errorf("%s: Deepest of %d: %x, not %x", name, n, got, namesOf(want))
		}
	}
}

// checkAncestors: what these names go back to, as the line has it; the names stay as they are.
func checkAncestors(t *testing.T, name string, s *Store, m *model, l ...api.Hash) {
	t.Helper()
	all := append(slices.Clone(l), api.Hash{1, 2}, api.Hash{3, 4})
	kept := slices.Clone(all)
	want := namesOf(m.ancestors(l))
	if got := s.Ancestors(all[:len(l)]...); !slices.Equal(got, want) || !slices.Equal(all, kept) {
		t.Errorf("%s: Ancestors of %x: %x, not %x", name, l, got, want)
	}
}

// checkMissing: which parents of bytes lack; the bytes stay as they are.
func checkMissing(t *testing.T, name string, s *Store, m *model, b []byte, want ...api.Hash) {
	t.Helper()
	all := append(slices.Clone(b), 7, 8, 9)
	kept := slices.Clone(all)
	if got := s.Missing(all[:len(b)]); !slices.Equal(got, want) || !slices.Equal(all, kept) {
		t.Errorf("%s: Missing of %x: %x, not %x", name, b, got, want)
	}
}
