package dag

import (
	"slices"

	"dioptre/api"
	"dioptre/entry"
	"dioptre/line"
)

// all are the entries by their names; of a nil store none.
func (s *Store) all() map[api.Hash]stored {
	if s == nil {
		return nil
	}
	return s.entries
}

// Has tells whether an entry is stored.
func (s *Store) Has(h api.Hash) bool {
	_, ok := s.all()[h]
	return ok
}

// Bytes is an entry's bytes.
func (s *Store) Bytes(h api.Hash) ([]byte, bool) {
	x, ok := s.all()[h]
	return slices.Clone(x.bytes), ok
}

// Entry is an entry.
func (s *Store) Entry(h api.Hash) (api.Entry, bool) {
	x, ok := s.all()[h]
	// What is decoded shares nothing with the store; of no bytes it is zero.
	e, _ := entry.Decode(x.bytes)
	return e, ok
}

// Depth is an entry's depth.
func (s *Store) Depth(h api.Hash) int { return s.all()[h].depth }

// Len is how many entries there are.
func (s *Store) Len() int { return len(s.all()) }

// Genesis is what it began with.
func (s *Store) Genesis() api.Genesis {
	if s == nil {
		return api.Genesis{}
	}
	return copied(s.genesis)
}

// Missing is the parents that lack.
func (s *Store) Missing(b []byte) []api.Hash {
	if s == nil {
		return nil
	}
	// Bytes of no entry have no parents.
	e, _ := entry.Decode(b)
	return slices.DeleteFunc(e.Parents, s.Has)
}

// Line is all marks.
func (s *Store) Line() []api.Mark {
	return s.marks(func(api.Hash) bool { return true })
}

// marks is the line of the entries that are wanted.
func (s *Store) marks(wanted func(h api.Hash) bool) []api.Mark {
	var l []api.Mark
	for h, x := range s.all() {
		if wanted(h) {
			l = append(l, api.Mark{Depth: x.depth, Id: h})
		}
	}
	return line.Sort(l...)
}

// heads is the line of the heads.
func (s *Store) heads() []api.Mark {
	parents := map[api.Hash]bool{}
	for _, x := range s.all() {
		for _, h := range x.parents {
			parents[h] = true
		}
	}
	return s.marks(func(h api.Hash) bool { return !parents[h] })
}

// Heads is the heads.
func (s *Store) Heads() []api.Hash { return entry.Sort(line.Names(s.heads())...) }

// Deepest is the deepest heads.
func (s *Store) Deepest(n int) []api.Hash {
	l := s.heads()
	return entry.Sort(line.Names(l[len(l)-min(max(n, 0), len(l)):])...)
}

// Ancestors is entries, and all that they go back to.
func (s *Store) Ancestors(l ...api.Hash) []api.Hash {
	reached := map[api.Hash]bool{}
	s.reach(reached, l)
	return line.Names(s.marks(func(h api.Hash) bool { return reached[h] }))
}

// reach lays down which of these are stored, and all that they go back to. What was reached isn't gone through again: each entry is gone through once, however often others name it.
func (s *Store) reach(reached map[api.Hash]bool, l []api.Hash) {
	for _, h := range l {
		if x, ok := s.all()[h]; ok && !reached[h] {
			reached[h] = true
			s.reach(reached, x.parents)
		}
	}
}
