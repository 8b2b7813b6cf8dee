package view

import (
	"reflect"
	"testing"

	"dioptre/api"
	"dioptre/dag"
	"dioptre/sample"
)

// TestOwnGenesis: the genesis isn't changed, nor kept.
func TestOwnGenesis(t *testing.T) {
	g := genesisOf(sample.RoomySchema(sheet()))
	kept := sample.WholeSchema(g.Root)
	v, e := New(g, 1)
	if e != nil || !reflect.DeepEqual(sample.WholeSchema(g.Root), kept) {
		t.Error("New has changed the root:", e)
	}
	m := &model{root: dag.Root(g), s: plainOf(sheet())}
	sample.ScrambleSchema(g.Root)
	clear(g.Writers)
	checkAll(t, "overwritten", v, m)
	// Nor is it what one begins with once more.
	further(t, v, m, 1, publish(m.root, wrap("a")), setTo(m.root, "5", "a"))
	comes(t, v, m, 0, named(3), setTo(m.root, "[4:{a=3}]", "m"))
	checkAll(t, "anew", v, m)
}

// richly are views of versions whose lenses, schemas and documents have lists at all places.
func richly(t *testing.T, every int) (*Views, *model) {
	t.Helper()
	v, m := viewsOf(t, sheet(), every)
	further(t, v, m, 1, setTo(m.root, "{a=5,l=[8:80,9:90],m=[6:{a=1},7:{a=2}],r={n=true}}"))
	for i, c := range rows() {
		further(t, v, m, byte(10+2*i), publish(m.root, c.l), write(named(byte(10+2*i)), c.there))
	}
	further(t, v, m, 80, publish(m.root, add("z", listOf(listOf(of(api.Int))), doc("[1:[2:3],4:[]]"))), setTo(m.root, "{a=4,l=[8:80,7:90],m=[6:{a=1},9:{a=2}],r={n=true}}"))
	return v, m
}

// spoil overwrites all that views tell of two versions, spare room, too.
func spoil(v *Views, a, b api.Hash) {
	sample.ScrambleHashes(v.Versions())
	d, _ := v.Read(a)
	sample.Scramble(d)
	s, _ := v.Schema(a)
	sample.ScrambleSchema(s)
	l, _ := v.Lens(a)
	sample.ScrambleLens(l)
	p, _ := v.Path(a, b)
	sample.ScrambleHashes(p)
}

// TestOwn: what is told is new each time: it may be overwritten, and what comes later makes of all what it would. (That entries aren't changed, and aren't kept, comes asks.)
func TestOwn(t *testing.T) {
	for _, every := range []int{1, 3, 64} {
		v, m := richly(t, every)
		for range 2 {
			for _, a := range v.Versions() {
				for _, b := range v.Versions() {
					spoil(v, a, b)
				}
			}
			checkAll(t, "overwritten", v, m)
			further(t, v, m, 90, setTo(m.root, "[3:{a=3}]", "m"))
			comes(t, v, m, 3, named(91), setTo(m.root, "[7:70]", "l"))
			checkAll(t, "further", v, m)
		}
	}
}

// TestApart: no two documents that are told share, nor two parts of one.
func TestApart(t *testing.T) {
	v, m := richly(t, 2)
	for _, a := range v.Versions() {
		first, _ := v.Read(a)
		kept := sample.Plain(first)
		for _, b := range v.Versions() {
			second, _ := v.Read(b)
			sample.Scramble(second)
		}
		if !same(first, kept) || !sample.Apart(first) {
			t.Errorf("%x: two answers, or two parts of one, share", a)
		}
	}
	checkAll(t, "apart", v, m)
}
