package registry

import (
	"slices"
	"testing"

	"dioptre/api"
	"dioptre/sample"
)

// spoil overwrites all that a registry tells of two versions, spare room, too.
func spoil(r *Registry, v, w api.Hash) {
	sample.ScrambleHashes(r.Versions())
	s, _ := r.Schema(v)
	sample.ScrambleSchema(s)
	l, _ := r.Lens(v)
	sample.ScrambleLens(l)
	path, _ := r.Path(v, w)
	sample.ScrambleHashes(path)
	way := r.Out(v)
	for i := range way[:cap(way)] {
		way[:cap(way)][i] = Edge{named('!'), named('!'), true}
	}
}

// richly is a registry whose lenses, and schemas, have lists at all places.
func richly(t *testing.T) (*Registry, *model) {
	t.Helper()
	r, m := newOf(t, named('r'), sheet())
	letter := byte('A')
	for _, c := range kinds() {
		added(t, r, m, named(letter), named('r'), c.l)
		added(t, r, m, named(letter+32), named(letter), sample.Add("z", of(api.Enum, "x", "y"), sample.Word("y")))
		letter++
	}
	return r, m
}

// TestOwn: what is handed in isn't kept, and what is told is new each time. (That it isn't changed, checkAdd and TestNew ask.)
func TestOwn(t *testing.T) {
	for range 3 {
		r, m := richly(t)
		all := m.names()
		for _, v := range all {
			for _, w := range all {
				spoil(r, v, w)
			}
		}
		checkAll(t, "overwritten", r, m, named('!'))
		// Nor is anything kept of what is overwritten between two answers.
		for _, v := range all {
			s, _ := r.Schema(v)
			l, _ := r.Lens(v)
			path, _ := r.Path(v, named('a'))
			way, versions := r.Out(v), r.Versions()
			keptS, keptL, keptPath, keptWay := plainOf(s), plainLens(l), slices.Clone(path), slices.Clone(way)
			spoil(r, v, named('a'))
			if !sameSchema(s, keptS) || !sameLens(l, keptL) || !slices.Equal(path, keptPath) || !slices.Equal(way, keptWay) || !slices.Equal(versions, all) {
				t.Fatalf("two answers of %s share", letters(v))
			}
		}
	}
}

// TestTargetOwn: a version's schema and its lens share nothing with each other, or with other versions' ones.
func TestTargetOwn(t *testing.T) {
	r, m := richly(t)
	for _, v := range m.names() {
		for _, w := range m.names() {
			s, _ := r.Schema(v)
			l, _ := r.Lens(v)
			u, _ := r.Schema(w)
			k, _ := r.Lens(w)
			keptL, keptU, keptK := plainLens(l), plainOf(u), plainLens(k)
			sample.ScrambleSchema(s)
			if !sameLens(l, keptL) || !sameSchema(u, keptU) || !sameLens(k, keptK) {
				t.Fatalf("the schema of %s shares with what is told of %s", letters(v), letters(w))
			}
			sample.ScrambleLens(l)
			if !sameSchema(u, keptU) || !sameLens(k, keptK) {
				t.Fatalf("the lens of %s shares with what is told of %s", letters(v), letters(w))
			}
		}
	}
}

// TestCopy: P20.1: another registry that is as this one; what comes to the one doesn't come to the other one, of whichever version it is made.
func TestCopy(t *testing.T) {
	for _, first := range []string{"original", "copy"} {
		// With each of some sizes: lists that have spare room must not be shared.
		for size := range 9 {
			a, m := newOf(t, named('r'), one())
			for k := range size {
				added(t, a, m, api.Hash{1, byte(k)}, named('r'), wrap("a"))
			}
			b, n := a.Copy(), m.copied()
			if b == a {
				t.Fatal("Copy: the same")
			}
			checkAll(t, "a copy", b, n, named('x'))
			if first == "copy" {
				a, b, m, n = b, a, n, m
			}
			added(t, a, m, named('x'), named('r'), rename("a", "x"))
			checkAll(t, "another one, "+first, b, n, named('x'))
			added(t, b, n, named('y'), named('r'), rename("a", "y"))
			added(t, b, n, named('z'), named('y'), rename("y", "z"))
			checkAll(t, first, a, m, names("xyz")...)
			checkAll(t, "the other one", b, n, names("xyz")...)
			// The name that the one has may come to the other one, as another version.
			added(t, a, m, named('y'), named('x'), wrap("x"))
			added(t, b, n, named('x'), named('z'), wrap("z"))
			checkAll(t, first, a, m, names("xyz")...)
			checkAll(t, "the other one", b, n, names("xyz")...)
		}
	}
}

// TestCopies: copies of copies, each of which goes a way of its own; what one of them tells may be overwritten.
func TestCopies(t *testing.T) {
	r, m := richly(t)
	all := []pair{{r, m}}
	for k := range 5 {
		p := all[k]
		all = append(all, pair{p.r.Copy(), p.m.copied()})
		for i, p := range all {
			added(t, p.r, p.m, api.Hash{2, byte(k), byte(i)}, p.m.all[(k+i)%len(p.m.all)].name, sample.Add("y", of(api.Int), num(k)))
			spoil(p.r, p.m.all[k].name, p.m.all[i].name)
		}
	}
	for _, p := range all {
		checkAll(t, "copies", p.r, p.m)
	}
}
