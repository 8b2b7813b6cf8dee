package value

import (
	"slices"
	"testing"

	"dioptre/api"
	"dioptre/trial"
)

// checkSame: Same says this, whichever comes first.
func checkSame(t *testing.T, name string, a, b api.Value, want bool) {
	t.Helper()
	if Same(a, b) != want || Same(b, a) != want {
		t.Errorf("%s: Same of %v and %v: %v, %v", name, a, b, Same(a, b), Same(b, a))
	}
}

// differing are values that are like no other one of them, right or not.
func differing() []api.Value {
	return []api.Value{
		{}, {Kind: 7}, {Kind: -1}, truth(0), truth(1), truth(2), num(0), num(1), num(-1), text(""), text("a"), text("b"), word(""), word("a"), word("A"),
		{N: 1}, {S: "a"}, {Names: []string{"a"}}, {Names: []string{""}}, {Ids: []uint64{1}}, {Ids: []uint64{0}}, {Parts: []api.Value{{}}}, {Parts: []api.Value{{}, {}}},
		record(nil), record([]string{"a"}), record([]string{"b"}), record([]string{"a", "b"}), record([]string{"b", "a"}), record(nil, num(1)),
		record([]string{"a"}, num(1)), record([]string{"b"}, num(1)), record([]string{"a"}, num(2)), record([]string{"a"}, text("1")),
		record([]string{"a", "b"}, num(1), num(2)), record([]string{"a", "b"}, num(2), num(1)), record([]string{"a", "b"}, num(1)), record([]string{"a"}, num(1), num(2)),
		list(nil), list([]uint64{1}), list([]uint64{2}), list([]uint64{1, 2}), list([]uint64{2, 1}), list(nil, num(1)),
		list([]uint64{1}, num(1)), list([]uint64{2}, num(1)), list([]uint64{1}, num(2)), list([]uint64{1, 2}, num(1), num(2)), list([]uint64{2, 1}, num(1), num(2)),
		inLists(num(1), 2), inLists(num(1), 3), inLists(num(2), 3), inRecords(num(1), 3), inLists(inRecords(num(1), 1), 2), inRecords(inLists(num(1), 2), 1),
		list([]uint64{1, 2}, inLists(num(1), 1), num(1)), list([]uint64{1, 2}, inLists(num(1), 1), num(2)), list([]uint64{1, 2}, num(1), inLists(num(1), 1)),
	}
}

// TestSame: P8.1: whether they are the same, in all fields, also of those that the kind doesn't name.
func TestSame(t *testing.T) {
	l := differing()
	for i, a := range l {
		for j, b := range l {
			checkSame(t, "differing", a, plain(b), i == j)
			checkSame(t, "within", inLists(a, 3), inLists(plain(b), 3), i == j)
			checkSame(t, "behind", list([]uint64{1, 2}, num(1), a), list([]uint64{1, 2}, num(1), plain(b)), i == j)
		}
	}
	empty := api.Value{Kind: api.List, Names: []string{}, Ids: []uint64{}, Parts: []api.Value{}}
	checkSame(t, "nil and empty", empty, list(nil), true)
	checkSame(t, "nil and empty, within", inRecords(empty, 2), inRecords(list(nil), 2), true)
	checkSame(t, "with spare room", roomy(inLists(num(1), 2)), inLists(num(1), 2), true)
}

// TestSameAny: P8.1: any values, as the library says.
func TestSameAny(t *testing.T) {
	r := chance()
	count := map[bool]int{}
	for range 20000 {
		a := someValue(r, 4)
		b := plain(a)
		spoil(r, &b)
		count[equal(a, b)]++
		checkSame(t, "spoiled", a, b, equal(a, b))
	}
	if count[true] < 1000 || count[false] < 1000 {
		t.Errorf("%v", count)
	}
}

// TestDepthSize: P8.1: of any value, right or not.
func TestDepthSize(t *testing.T) {
	for _, c := range []struct {
		name        string
		v           api.Value
		depth, size int
	}{
		{"zero", api.Value{}, 1, 1},
		{"Int", num(5), 1, 1},
		{"empty record", record(nil), 1, 1},
		{"names without parts", record([]string{"a", "b"}), 1, 1},
		{"record", record([]string{"a", "b"}, num(5), truth(1)), 2, 3},
		{"parts without names", record(nil, num(5), truth(1)), 2, 3},
		{"an Int's parts", api.Value{Kind: api.Int, Parts: []api.Value{{}, inLists(num(1), 1)}}, 3, 4},
		{"deep ahead", list([]uint64{1, 2, 3}, inLists(num(1), 3), num(1), inLists(num(1), 1)), 5, 8},
		{"deep behind", list([]uint64{1, 2, 3}, num(1), inLists(num(1), 1), inLists(num(1), 3)), 5, 8},
		{"too deep", inRecords(num(1), 5), 6, 6},
		{"far too deep", inLists(num(1), 100), 101, 101},
	} {
		if Depth(c.v) != c.depth || Size(c.v) != c.size {
			t.Errorf("%s: Depth %d, Size %d, not %d, %d", c.name, Depth(c.v), Size(c.v), c.depth, c.size)
		}
	}
	r := chance()
	for range 3000 {
		v := someValue(r, 6)
		spoil(r, &v)
		if Depth(v) != wantDepth(v) || Size(v) != wantSize(v) {
			t.Errorf("Depth %d, Size %d of %v", Depth(v), Size(v), v)
		}
	}
}

// TestCopy: P8.1: the same one, also of one that isn't right, and nothing is shared with it.
func TestCopy(t *testing.T) {
	check := func(v api.Value) {
		t.Helper()
		if c := Copy(v); !equal(c, v) || !Same(c, v) {
			t.Errorf("Copy of %v: %v", v, c)
		}
		checkOwn(t, "Copy", v, v, func(v, _ api.Value) api.Value { return Copy(v) })
	}
	for _, v := range slices.Concat(differing(), odds()) {
		check(v)
	}
	for _, v := range rightValues() {
		check(v)
	}
	for _, v := range wrongValues() {
		check(v)
	}
	r := chance()
	for range 2000 {
		v := someValue(r, 6)
		spoil(r, &v)
		check(v)
	}
}

// TestDeep: every call ends, of a value however deep it is.
func TestDeep(t *testing.T) {
	const n = 1000000
	v := inLists(num(5), n)
	c := Copy(v)
	if !Same(v, c) || Depth(c) != n+1 || Size(v) != n+1 || Right(v) {
		t.Error("deep:", Depth(v), Size(v), Right(v))
	}
	// What lies deepest is told.
	for x := &c; ; x = &x.Parts[0] {
		if len(x.Parts) == 0 {
			x.N = 6
			break
		}
	}
	if Same(v, c) || Same(v, v.Parts[0]) {
		t.Error("deep: Same")
	}
	_, e := Encode(v)
	trial.Code(t, "deep", e, api.ErrArg)
	x, ok := Field(record([]string{"a"}, v), "a")
	if !ok || x.Kind != api.List || Depth(With(record(nil), "a", x)) != n+2 || Depth(Record(eight, x)) != n+2 || Depth(Without(record(nil, x), "a")) != n+2 {
		t.Error("deep: records")
	}
}

// TestWide: of a value with any number of parts.
func TestWide(t *testing.T) {
	const n = 300000
	v := list(nil, make([]api.Value, n)...)
	for i := range v.Parts {
		v.Ids, v.Parts[i] = append(v.Ids, uint64(i+1)), num(i)
	}
	c := Copy(v)
	if !Same(v, c) || Depth(v) != 2 || Size(v) != n+1 || Right(v) {
		t.Error("wide:", Depth(v), Size(v), Right(v))
	}
	c.Parts[n-1].N++
	if i, ok := Elem(v, n); Same(v, c) || !ok || i != n-1 {
		t.Error("wide: Same, Elem", i, ok)
	}
}

// rings are values that lie within themselves.
func rings() []api.Value {
	one := inLists(num(1), 1)
	one.Parts[0] = one
	behind := list([]uint64{1, 2}, num(1), num(2))
	behind.Parts[1] = behind
	all := list(twelve, many(12)...)
	for i := range all.Parts {
		all.Parts[i] = all
	}
	long := inRecords(num(1), 50)
	last := &long
	for len(last.Parts[0].Parts) > 0 {
		last = &last.Parts[0]
	}
	last.Parts[0] = long.Parts[0].Parts[0]
	var each []api.Value // each one of them has them all, in a list of its own
	for range 12 {
		each = append(each, list(twelve, many(12)...))
	}
	for _, v := range each {
		copy(v.Parts, each)
	}
	return []api.Value{one, one.Parts[0], behind, all, long, each[0], inLists(one, 3), record([]string{"a", "b"}, num(1), behind), inRecords(each[5], 10)}
}

// TestRings: every call ends, also of values that lie within themselves: these have no depth, no size and no copy.
func TestRings(t *testing.T) {
	for i, v := range rings() {
		if Right(v) || Depth(v) != 0 || Size(v) != 0 || !equal(Copy(v), api.Value{}) {
			t.Error("ring", i, Right(v), Depth(v), Size(v))
		}
		for _, other := range append(rings(), num(1), inLists(num(1), 3)) {
			checkSame(t, "ring", v, other, false)
		}
		_, e := Encode(v)
		trial.Code(t, "ring", e, api.ErrArg)
		within := record([]string{"a"}, v)
		if x, ok := Field(within, "a"); !ok || !equal(x, api.Value{}) {
			t.Error("ring", i, "Field")
		}
		if !equal(With(within, "b", num(1)), api.Value{}) || !equal(Without(within, "a"), api.Value{}) {
			t.Error("ring", i, "With, Without")
		}
		if want := record([]string{"a"}, api.Value{}); !equal(With(record(nil), "a", v), want) || !equal(Record([]string{"a"}, v), want) {
			t.Error("ring", i, "as a part")
		}
		Elem(v, 1)
	}
}

// TestShared: a value that stands in several places isn't one that lies within itself.
func TestShared(t *testing.T) {
	v := num(1)
	for range 8 {
		l := []api.Value{v}
		v = list([]uint64{1, 2}, api.Value{Kind: api.List, Parts: l}, api.Value{Kind: api.List, Parts: l})
	}
	if Depth(v) != 17 || Size(v) != wantSize(v) || !Same(v, Copy(v)) {
		t.Error("shared:", Depth(v), Size(v))
	}
	checkOwn(t, "shared", v, v, func(v, _ api.Value) api.Value { return Copy(v) })
	c := Copy(v)
	c.Parts[0].Parts[0].Kind = 9
	if c.Parts[1].Parts[0].Kind == 9 {
		t.Error("two places of a copy share")
	}
}
