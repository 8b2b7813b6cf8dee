package registry

import (
	"math/rand/v2"
	"testing"

	"dioptre/api"
	"dioptre/sample"
	"dioptre/told"
)

// pair is a registry and its model.
type pair struct {
	r *Registry
	m *model
}

// someAdd adds a version, mostly one that is right: of any version, and by any lens that mostly goes on its schema.
func someAdd(t *testing.T, r *rand.Rand, p pair) api.Errno {
	t.Helper()
	x := p.m.all[r.IntN(len(p.m.all))]
	if r.IntN(3) == 0 {
		// Of the last one: so some lie deep.
		x = p.m.all[len(p.m.all)-1]
	}
	name, from := sample.SomeHash(r.IntN), x.name
	name[5] = byte(r.IntN(4))
	if r.IntN(20) == 0 {
		from = sample.SomeHash(r.IntN)
	}
	l := sample.SomeLens(r.IntN, x.s, 5)
	if r.IntN(12) == 0 {
		sample.SpoilLens(r.IntN, &l)
	}
	return checkAdd(t, "any", p.r, p.m, name, from, l)
}

// TestAny: P20.1, P20.2, P20.3: whatever comes, registries are as the model says, behind each step; so are their copies, of which each goes a way of its own.
func TestAny(t *testing.T) {
	r := chance()
	codes, depths, kinds := map[api.Errno]int{}, map[int]int{}, map[int]int{}
	for range 100 {
		a, m := newOf(t, sample.SomeHash(r.IntN), sample.SomeRecord(r.IntN))
		all := []pair{{a, m}}
		for range 30 {
			p := all[r.IntN(len(all))]
			codes[someAdd(t, r, p)]++
			checkVersion(t, "any", p.r, p.m, p.m.all[len(p.m.all)-1].name)
			checkOut(t, "any", p.r, p.m, p.m.all[r.IntN(len(p.m.all))].name)
			if len(all) < 4 && r.IntN(10) == 0 {
				all = append(all, pair{p.r.Copy(), p.m.copied()})
			}
		}
		for _, p := range all {
			checkAll(t, "any", p.r, p.m, sample.SomeHash(r.IntN), api.Hash{31: 9})
			for _, x := range p.m.all {
				depths[p.r.Depth(x.name)]++
				kinds[x.l.Kind]++
			}
		}
		if t.Failed() {
			t.Fatalf("that was on %s", told.Schema(m.all[0].s))
		}
	}
	for _, code := range []api.Errno{api.OK, api.ErrNone, api.ErrTwice, api.ErrArg, api.ErrLens} {
		if codes[code] < 60 {
			t.Errorf("%v", codes)
		}
	}
	if len(depths) < 8 || len(kinds) != 11 {
		t.Errorf("%v %v", depths, kinds)
	}
}
