package view

import (
	"math"
	"reflect"
	"slices"
	"testing"

	"dioptre/api"
	"dioptre/dag"
	"dioptre/sample"
	"dioptre/trial"
)

// TestNew: P21.1: views of no entries, of any right genesis: its root sees its default.
func TestNew(t *testing.T) {
	for name, c := range map[string]struct {
		root api.Schema
		want string
	}{
		"a number":    {one(), "{a=0}"},
		"no field":    {recordOf(nil), "{}"},
		"some fields": {sheet(), "{a=0,l=[],m=[],r={n=false}}"},
		"an enum":     {recordOf([]string{"_", "b"}, of(api.Enum, "red", "blue"), of(api.Text)), `{_=#red,b=""}`},
		"empty lists": {api.Schema{Kind: api.Record, Words: []string{}, Parts: []api.Schema{}}, "{}"},
		"five deep":   {recordOf([]string{"a"}, recordOf([]string{"b"}, recordOf([]string{"c"}, recordOf([]string{"d"}, of(api.Int))))), "{a={b={c={d=0}}}}"},
	} {
		for _, every := range []int{1, 2, 63, 64} {
			v, m := viewsOf(t, c.root, every)
			checkAll(t, name, v, m, sample.Hashes()...)
			sees(t, name, v, m.root, c.want)
		}
	}
	v, e := New(genesisOf(sample.LargeSchema(4096)), 1)
	if e != nil || v.Len() != 0 || v.Saved() != 1 {
		t.Error("a large root:", e)
	}
}

// TestNewRoot: P21.1: the root's name is the genesis's, of its keys, too, but not of how many entries there may be.
func TestNewRoot(t *testing.T) {
	var names []api.Hash
	g := genesisOf(one())
	for _, change := range []func(){func() {}, func() { g.Most = 64 }, func() { g.Admins = g.Writers }, func() { g.Writers = nil }} {
		change()
		v, e := New(g, 3)
		if e != nil || len(v.Versions()) != 1 || v.Versions()[0] != dag.Root(g) {
			t.Fatal("New:", e)
		}
		names = append(names, v.Versions()...)
	}
	if names[0] != names[1] || names[1] == names[2] || names[2] == names[3] || names[0] == names[3] {
		t.Errorf("%x", names)
	}
}

// TestNewWrong: P21.1: a genesis that isn't right, or a number that may not be.
func TestNewWrong(t *testing.T) {
	fails := func(name string, g api.Genesis, every int) {
		t.Helper()
		v, e := New(g, every)
		trial.Code(t, name, e, api.ErrArg)
		if v != nil {
			t.Errorf("%s: views beside an error", name)
		}
	}
	for _, every := range []int{0, -1, 65, 128, 256 + 1, 1<<32 + 1, math.MinInt, math.MaxInt} {
		fails("every", genesisOf(one()), every)
		fails("every, and no genesis", api.Genesis{}, every)
	}
	g := genesisOf(one())
	for name, change := range map[string]func(g *api.Genesis){
		"zero": func(g *api.Genesis) { *g = api.Genesis{} }, "a number": func(g *api.Genesis) { g.Root = of(api.Int) }, "a list": func(g *api.Genesis) { g.Root = listOf(one()) },
		"no schema": func(g *api.Genesis) { g.Root = recordOf([]string{"a"}) }, "great names": func(g *api.Genesis) { g.Root.Words = []string{"A"} }, "4097 bytes": func(g *api.Genesis) { g.Root = sample.LargeSchema(4097) },
		"Most 0": func(g *api.Genesis) { g.Most = 0 }, "Most 65": func(g *api.Genesis) { g.Most = 65 }, "Wait -1": func(g *api.Genesis) { g.Wait = -1 }, "Wait 33": func(g *api.Genesis) { g.Wait = 33 },
		"nine writers": func(g *api.Genesis) { g.Writers = slices.Repeat(g.Writers, 9) }, "nine admins": func(g *api.Genesis) { g.Admins = slices.Repeat(g.Writers, 9) },
		"no writer's point": func(g *api.Genesis) { g.Writers = []api.Key{{2}} }, "no admin's point": func(g *api.Genesis) { g.Admins = []api.Key{{2}} },
	} {
		wrong := g
		change(&wrong)
		for _, every := range []int{1, 64} {
			fails(name, wrong, every)
		}
	}
}

// TestInsertWrong: P21.1: a place that is none, an entry that isn't right; nothing changes by it.
func TestInsertWrong(t *testing.T) {
	v, m := viewsOf(t, one(), 2)
	right := publish(m.root, wrap("a"))
	for n := range byte(5) {
		for _, k := range []int{-1, -2, v.Len() + 1, v.Len() + 2, 64, 65, math.MinInt, math.MaxInt, 1 << 32, 256} {
			refused(t, "a place", v, m, k, right)
			refused(t, "a place, and no entry", v, m, k, api.Entry{})
		}
		for name, e := range wrongEntries(m.root) {
			for k := range v.Len() + 1 {
				refused(t, name, v, m, k, e)
			}
		}
		further(t, v, m, n+1, publish(m.root, add("f", of(api.Int), num(int(n)))))
	}
}

// wrongEntries aren't right, by name.
func wrongEntries(root api.Hash) map[string]api.Entry {
	o, l := set(steps("a"), num(1)), wrap("a")
	parents := func(l ...api.Hash) api.Entry {
		return api.Entry{Kind: api.Write, Version: root, Op: o, Parents: l}
	}
	return map[string]api.Entry{
		"zero": {}, "kind 0": {Version: root, Op: o}, "kind 3": {Kind: 3, Version: root, Op: o}, "kind -1": {Kind: -1, Version: root, Lens: l}, "kind 257": {Kind: 257, Version: root, Op: o},
		"a Write of a lens": {Kind: api.Write, Version: root, Lens: l}, "a Publish of an operation": {Kind: api.Publish, Version: root, Op: o}, "a Write of both": {Kind: api.Write, Version: root, Op: o, Lens: l}, "a Publish of both": {Kind: api.Publish, Version: root, Op: o, Lens: l},
		"no operation": write(root, api.Op{}), "no lens": publish(root, api.Lens{}), "an operation that isn't right": write(root, insert(steps("a"), 0, 0, num(1))), "a lens that isn't right": publish(root, rename("a", "a")),
		"a parent twice": parents(named(1), named(1)), "parents that fall": parents(named(2), named(1)), "five parents": parents(named(1), named(2), named(3), named(4), named(5)),
		"too many bytes": write(root, set(nil, sample.Large(4096))),
	}
}

// TestInsertRight: P21.1: neither keys nor parents are asked for, nor the signature; there may be as many bytes as an entry may have, and any number of entries.
func TestInsertRight(t *testing.T) {
	v, m := viewsOf(t, recordOf([]string{"a"}, listOf(listOf(of(api.Text)))), 5)
	e := write(m.root, set(steps("a"), sample.Large(4096-1-32-1-4-64-32)))
	e.Key, e.Sig = api.Key{2}, api.Sig{9}
	comes(t, v, m, 0, named(1), e)
	if d, err := v.Read(m.root); err != nil || !same(d, sample.Record([]string{"a"}, e.Op.Value)) {
		t.Error("a large operation:", text(d), err)
	}
	e.Op.Value = sample.Large(4096 - 1 - 32 - 1 - 4 - 64 - 32 + 1)
	refused(t, "one byte more", v, m, 1, e)
	e = publish(m.root, add("b", of(api.Int), num(4)))
	e.Parents = []api.Hash{{}, named(1), named(2), {255}}
	comes(t, v, m, 1, named(2), e)
	checkAll(t, "parents", v, m)
	for n := range byte(100) {
		comes(t, v, m, int(n), named(n), setTo(m.root, "[]", "a"))
	}
	checkAll(t, "more than a store may have", v, m)
	for n := range byte(30) {
		from := v.Versions()[v.Len()%len(v.Versions())]
		comes(t, v, m, v.Len()-int(n)%3, named(n+100), publish(from, wrap("a")))
	}
	checkAll(t, "many", v, m)
}

// TestNil: nil views have no version, and no entry comes in.
func TestNil(t *testing.T) {
	var v *Views
	for _, k := range []int{0, -1, 1, math.MaxInt} {
		trial.Code(t, "nil: Insert", v.Insert(k, named(1), publish(named(1), wrap("a"))), api.ErrState)
		trial.Code(t, "nil: Insert of no entry", v.Insert(k, named(1), api.Entry{}), api.ErrState)
	}
	for _, h := range append(sample.Hashes(), dag.Root(genesisOf(one()))) {
		d, e := v.Read(h)
		trial.Code(t, "nil: Read", e, api.ErrState)
		s, e := v.Schema(h)
		trial.Code(t, "nil: Schema", e, api.ErrState)
		l, ok := v.Lens(h)
		p, ok2 := v.Path(h, h)
		if !reflect.DeepEqual(d, api.Value{}) || !reflect.DeepEqual(s, api.Schema{}) || !reflect.DeepEqual(l, api.Lens{}) || ok || p != nil || ok2 {
			t.Errorf("nil views have something: %v, %v, %v, %v", d, s, l, p)
		}
	}
	if v.Len() != 0 || v.Saved() != 0 || v.Versions() != nil {
		t.Error("nil views have something:", v.Len(), v.Saved(), v.Versions())
	}
}
