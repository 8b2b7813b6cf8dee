package view

import (
	"math/rand/v2"
	"testing"

	"dioptre/api"
	"dioptre/fault"
	"dioptre/lens"
	"dioptre/op"
	"dioptre/sample"
	"dioptre/told"
)

// someEntry is a right entry that mostly makes something: at any version, by what mostly goes there.
func someEntry(r *rand.Rand, l versions) api.Entry {
	for {
		x := l[r.IntN(len(l))]
		if r.IntN(3) == 0 {
			// At the last one: so some lie deep.
			x = l[len(l)-1]
		}
		at := x.name
		switch r.IntN(20) {
		case 0:
			at = sample.SomeHash(r.IntN)
		case 1:
			at = l[r.IntN(len(l))].name
		}
		if r.IntN(3) == 0 {
			if k := sample.SomeLens(r.IntN, x.s, 5); lens.Right(k) {
				return publish(at, k)
			}
		} else if o := sample.SomeOp(r.IntN, x.s, x.doc); op.Right(o) {
			return write(at, o)
		}
	}
}

// someName is a name; some are those of versions.
func someName(r *rand.Rand, l versions) api.Hash {
	if r.IntN(15) == 0 {
		return l[r.IntN(len(l))].name
	}
	name := sample.SomeHash(r.IntN)
	name[7] = byte(r.IntN(16))
	return name
}

// made is what an entry makes of these versions, if it is the last one.
func made(l versions, name api.Hash, e api.Entry) string {
	k := l.place(e.Version)
	switch {
	case k < 0:
		return "no version"
	case e.Kind == api.Write:
		if op.Check(e.Op, l[k].s) != nil {
			return "doesn't fit"
		}
		return "written"
	case l.place(name) >= 0:
		return "twice"
	}
	if _, err := lens.Target(e.Lens, l[k].s); err != nil {
		return "doesn't go"
	}
	return "published"
}

// checkLast: P21.3: behind a Write that was the last entry its version sees what the operation makes of what that saw.
func checkLast(t *testing.T, before versions, v *Views, e api.Entry) {
	t.Helper()
	x := before[before.place(e.Version)]
	if d, err := v.Read(e.Version); err != nil || !same(d, op.Apply(x.s, x.doc, e.Op)) {
		t.Errorf("of what the last one writes %s %v is seen", text(d), fault.Code(err))
	}
}

// TestAny: P21.1, P21.2, P21.3: whatever comes, to whatever place, views are as the model says; so are those of the same entries that came in another order, of which others are kept.
func TestAny(t *testing.T) {
	r := chance()
	count, kinds, depths := map[string]int{}, map[int]int{}, map[int]int{}
	for range 120 {
		root := sample.SomeRecord(r.IntN)
		v, m := viewsOf(t, root, []int{1, 2, 3, 4, 7, 20, 64}[r.IntN(7)])
		for range 30 {
			l := m.views()
			name, e := someName(r, l), someEntry(r, l)
			what := made(l, name, e)
			count[what]++
			k := v.Len()
			if r.IntN(4) == 0 {
				k = r.IntN(k + 1)
			}
			comes(t, v, m, k, name, e)
			if k == v.Len()-1 && what == "written" {
				checkLast(t, l, v, e)
			}
			if r.IntN(3) == 0 {
				checkAll(t, "any", v, m, name, sample.SomeHash(r.IntN))
			}
		}
		l := checkAll(t, "any", v, m, api.Hash{})
		for _, x := range l {
			p, _ := v.Path(m.root, x.name)
			depths[len(p)]++
			kinds[x.l.Kind]++
		}
		checkShuffled(t, r, v, m)
		if t.Failed() {
			t.Fatalf("that was on %s, each %d", told.Schema(root), v.every)
		}
	}
	for _, what := range []string{"no version", "doesn't fit", "written", "twice", "doesn't go", "published"} {
		if count[what] < 30 {
			t.Errorf("%v", count)
		}
	}
	if len(kinds) != 11 || len(depths) < 7 {
		t.Errorf("%v %v", kinds, depths)
	}
}

// checkShuffled: views of the same entries, which come in another order, are the same.
func checkShuffled(t *testing.T, r *rand.Rand, v *Views, m *model) {
	t.Helper()
	other, err := New(genesisOf(m.s), 1+r.IntN(api.MaxEntries))
	if err != nil {
		t.Fatal(err)
	}
	var there []int
	for _, i := range r.Perm(len(m.all)) {
		if e := other.Insert(ahead(there, i), m.all[i].name, m.all[i].e); e != nil {
			t.Fatal(e)
		}
		there = append(there, i)
	}
	checkAll(t, "shuffled", other, m)
	for _, h := range v.Versions() {
		d, _ := v.Read(h)
		if x, e := other.Read(h); e != nil || !same(d, x) {
			t.Errorf("shuffled: %x sees %s %v, not %s", h, text(x), e, text(d))
		}
	}
}
