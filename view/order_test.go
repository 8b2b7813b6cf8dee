package view

import (
	"slices"
	"testing"

	"dioptre/api"
	"dioptre/dag"
	"dioptre/op"
)

// story are entries, of which each hangs on others ahead of it, in their order, beginning with the seed 1.
func story(root api.Hash) []api.Entry {
	return []api.Entry{
		setTo(root, "5", "a"),
		publish(root, wrap("a")),
		write(named(2), insert(steps("a"), 9, 1, num(6))),
		publish(named(2), rename("a", "b")),
		write(named(4), remove(steps("b"), 2)),
		setTo(root, "8", "a"),
	}
}

// orders hands on all orders of so many things.
func orders(n int, use func(order []int)) {
	var more func(order []int)
	more = func(order []int) {
		if len(order) == n {
			use(order)
		}
		for i := range n {
			if !slices.Contains(order, i) {
				more(append(slices.Clone(order), i))
			}
		}
	}
	more(nil)
}

// ahead is how many numbers are less than that one: the place of an entry among those that are there.
func ahead(there []int, i int) int {
	k := 0
	for _, j := range there {
		if j < i {
			k++
		}
	}
	return k
}

// TestOrders: P21.1, P21.3: whatever the order in which entries come, each to its place, and however many states are kept, the views are the same, behind each of them.
func TestOrders(t *testing.T) {
	count := 0
	orders(6, func(order []int) {
		every := 1 + count%7
		count++
		v, m := viewsOf(t, one(), every)
		var there []int
		for step, i := range order {
			comes(t, v, m, ahead(there, i), named(byte(1+i)), story(m.root)[i])
			there = append(there, i)
			// The states that are kept may be told by what comes next alone: now and then nothing is asked in between.
			if (count+step)%3 == 0 {
				checkAll(t, "on the way", v, m, named(2), named(4))
			}
		}
		sees(t, "the story", v, m.root, "{a=8}")
		sees(t, "the story", v, named(2), "{a=[9:8]}")
		sees(t, "the story", v, named(4), "{b=[9:8]}")
		checkAll(t, "the story", v, m)
		if t.Failed() {
			t.Fatal("that was the order", order, "each", every)
		}
	})
	if count != 720 {
		t.Error(count, "orders")
	}
}

// TestPlaces: P21.1: an entry comes in ahead of what stood at its place, at each place, and all behind it is seen anew.
func TestPlaces(t *testing.T) {
	const as = "{a=5} {a=[2:5,9:6]}"
	for every := range 6 {
		for name, c := range map[string]struct {
			seed byte
			e    func(root api.Hash) api.Entry
			want []string
		}{
			"a number":          {7, func(root api.Hash) api.Entry { return setTo(root, "7", "a") }, []string{as, "{a=7} {a=[2:7,9:6]}", "{a=7} {a=[2:7,9:6]}", "{a=7} {a=[2:7,9:6]}", "{a=7} {a=[2:7,9:6]}"}},
			"an element goes":   {7, func(api.Hash) api.Entry { return write(named(2), remove(steps("a"), 2)) }, []string{as, as, "{a=6} {a=[9:6]}", "{a=6} {a=[9:6]}", "{a=6} {a=[9:6]}"}},
			"all elements go":   {7, func(api.Hash) api.Entry { return setTo(named(2), "[]", "a") }, []string{as, as, "{a=6} {a=[9:6]}", "{a=0} {a=[]}", "{a=0} {a=[]}"}},
			"another version 2": {2, func(root api.Hash) api.Entry { return publish(root, rename("a", "b")) }, []string{"{a=5} {b=5}", "{a=5} {b=5}", as, as, as}},
		} {
			for k, want := range c.want {
				v, m := viewsOf(t, one(), every+1)
				further(t, v, m, 1, story(m.root)[:4]...)
				comes(t, v, m, k, named(c.seed), c.e(m.root))
				here, _ := v.Read(m.root)
				there, _ := v.Read(named(2))
				if got := text(here) + " " + text(there); got != want {
					t.Errorf("%s at %d: %s, not %s", name, k, got, want)
				}
				checkAll(t, name, v, m, named(4))
			}
		}
	}
}

// TestSaved: P21.2: of each every-th entry there is a state, and one more.
func TestSaved(t *testing.T) {
	for every := 1; every <= api.MaxEntries; every++ {
		v, m := viewsOf(t, one(), every)
		for n := range 2*api.MaxEntries + 3 {
			if got := v.Saved(); got != n/every+1 {
				t.Fatalf("each %dth of %d: %d are kept", every, n, got)
			}
			// At its end, at its beginning, and in its midst.
			k := []int{n, 0, n / 2}[n%3]
			if e := v.Insert(k, named(byte(n)), setTo(m.root, "5", "a")); e != nil {
				t.Fatal(e)
			}
		}
	}
}

// TestGrows: P21.2: versions come and go with what is inserted ahead of them.
func TestGrows(t *testing.T) {
	v, m := viewsOf(t, one(), 2)
	comes(t, v, m, 0, named(3), publish(named(2), rename("b", "c")))
	comes(t, v, m, 1, named(4), setTo(named(3), "9", "c"))
	if l := checkAll(t, "of none", v, m, named(3), named(2)); len(l) != 1 {
		t.Error(l)
	}
	comes(t, v, m, 0, named(2), publish(m.root, rename("a", "b")))
	sees(t, "both", v, m.root, "{a=9}")
	sees(t, "both", v, named(3), "{c=9}")
	if l := checkAll(t, "both", v, m); !slices.Equal(l.names(), []api.Hash{m.root, named(2), named(3)}) {
		t.Error(l)
	}
	// Now another version has that name: the lens of the next one doesn't go on it.
	comes(t, v, m, 0, named(2), publish(m.root, wrap("a")))
	sees(t, "another one", v, m.root, "{a=0}")
	sees(t, "another one", v, named(2), "{a=[]}")
	if l := checkAll(t, "another one", v, m, named(3)); len(l) != 2 {
		t.Error(l)
	}
}

// TestRegistered: P21.2: versions come in the order of the entries, not of their names, nor in that in which they were inserted.
func TestRegistered(t *testing.T) {
	v, m := viewsOf(t, one(), 3)
	for i, c := range []struct {
		k    int
		name byte
	}{{0, 9}, {1, 3}, {0, 5}, {2, 8}, {4, 1}} {
		comes(t, v, m, c.k, named(c.name), publish(m.root, rename("a", "bcdefgh"[i:][:1])))
		checkAll(t, "registered", v, m)
	}
	want := []api.Hash{m.root, named(5), named(9), named(8), named(3), named(1)}
	if got := v.Versions(); !slices.Equal(got, want) {
		t.Errorf("Versions: %x", got)
	}
	if l, ok := v.Path(named(3), named(1)); !ok || !slices.Equal(l, []api.Hash{named(3), m.root, named(1)}) {
		t.Errorf("Path: %x %v", l, ok)
	}
	if l, ok := v.Lens(named(8)); !ok || !sameLens(l, rename("a", "e")) {
		t.Error("Lens:", l, ok)
	}
}

// TestLast: P21.3: what is written last is seen at its version as it was meant.
func TestLast(t *testing.T) {
	v, m := family(t, 4)
	for i, o := range []api.Op{at("5", "b"), at("{b=6}"), insert(steps("b"), 3, 0, num(7)), insert(steps("b"), 4, 3, num(0)), move(steps("b"), 3, 4), remove(steps("b"), 3), at("[1:5,2:0,3:6]", "b"), at("7", "c")} {
		h := named([]byte{1, 1, 2, 3, 2, 3, 2, 3}[i])
		there, e := v.Read(h)
		s, e2 := v.Schema(h)
		if e != nil || e2 != nil || op.Check(o, s) != nil {
			t.Fatal(i, e, e2)
		}
		comes(t, v, m, v.Len(), named(byte(30+i)), write(h, o))
		if d, e := v.Read(h); e != nil || !same(d, op.Apply(s, there, o)) || same(d, there) {
			t.Errorf("%d: %s %v", i, text(d), e)
		}
		checkAll(t, "the last one", v, m)
	}
}

// TestSame: P21.3: two views of one genesis are the same, whatever else is done with the one.
func TestSame(t *testing.T) {
	a, m := family(t, 3)
	b, e := New(genesisOf(one()), 5)
	if e != nil || dag.Root(genesisOf(one())) != m.root {
		t.Fatal(e)
	}
	n := &model{root: m.root, s: m.s}
	checkAll(t, "the other ones", b, n, named(1))
	for k, x := range m.all {
		comes(t, b, n, k, x.name, x.e)
	}
	further(t, a, m, 50, setTo(m.root, "9", "a"))
	checkAll(t, "the ones", a, m)
	checkAll(t, "the other ones", b, n)
	sees(t, "the other ones", b, m.root, "{a=0}")
}
