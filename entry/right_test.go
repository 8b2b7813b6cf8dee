package entry

import (
	"slices"
	"strconv"
	"testing"

	"dioptre/api"
	"dioptre/sample"
)

// rightEntries are right, by name.
func rightEntries() map[string]api.Entry {
	l := rising()
	return map[string]api.Entry{
		"Set": writeOf(set(nil, num(1))), "Insert": writeOf(insert(steps("l"), 3, 0, text("x"))), "Delete": writeOf(remove(nil, 3)), "Move": writeOf(move(steps("a", 4), 3, 2)),
		"Rename": publishOf(rename("a", "b")), "Wrap": publishOf(wrap("a")), "In": publishOf(in("a", wrap("b"))), "five deep": publishOf(within(wrap("a"), 4)),
		"Write, the zero parent": writeOf(remove(nil, 3), api.Hash{}), "Publish, a parent": publishOf(wrap("a"), hash(1, 1)),
		"Write, four parents": writeOf(remove(nil, 3), l[:4]...), "Publish, four parents": publishOf(wrap("a"), l[3:]...),
		"Write, two parents": writeOf(remove(nil, 3), l[4], l[5]), "Publish, three parents": publishOf(wrap("a"), l[0], l[1], l[6]),
		"no parents": writeOf(remove(nil, 3), []api.Hash{}...), "its Version as a parent": writeOf(remove(nil, 3), hash(7, 8)),
		"zero beside its operation": {Kind: api.Write, Op: remove(nil, 3)}, "zero beside its lens": {Kind: api.Publish, Lens: wrap("a")},
		"a key that is no point's": {Kind: api.Write, Op: remove(nil, 3), Key: api.Key{2}}, "a lens without elements": {Kind: api.Write, Op: remove(nil, 3), Lens: emptyLens()},
		"an operation without elements": {Kind: api.Publish, Lens: wrap("a"), Op: emptyOp()},
	}
}

// emptyValue, emptyOp and emptyLens are zero, but that their lists are there, without elements.
func emptyValue() api.Value {
	return api.Value{Names: []string{}, Ids: []uint64{}, Parts: make([]api.Value, 0, 3)}
}

func emptyOp() api.Op { return api.Op{Path: make([]api.Step, 0, 2), Value: emptyValue()} }

func emptyLens() api.Lens {
	return api.Lens{Type: api.Schema{Words: []string{}, Parts: []api.Schema{}}, Base: emptyValue(), Back: emptyValue(), Pairs: []api.Pair{}, Inner: make([]api.Lens, 0, 1)}
}

// otherOps and otherLenses are such that aren't zero, each in one field, by this.
func otherOps() map[string]api.Op {
	return map[string]api.Op{
		"Kind": {Kind: api.Set}, "Path": {Path: steps("a")}, "a zero step": {Path: []api.Step{{}}}, "Id": {Id: 1}, "After": {After: 1}, "Value": {Value: num(0)},
		"Value's N": {Value: api.Value{N: 1}}, "Value's S": {Value: api.Value{S: "a"}}, "Value's Names": {Value: api.Value{Names: []string{""}}}, "Value's Ids": {Value: api.Value{Ids: []uint64{0}}},
		"Value's Parts": {Value: api.Value{Parts: []api.Value{{}}}}, "all": insert(steps("a"), 3, 2, num(1)),
	}
}

func otherLenses() map[string]api.Lens {
	return map[string]api.Lens{
		"Kind": {Kind: api.Wrap}, "A": {A: "a"}, "B": {B: "b"}, "Type": {Type: of(api.Int)}, "Type's Words": {Type: api.Schema{Words: []string{""}}}, "Type's Parts": {Type: api.Schema{Parts: []api.Schema{{}}}},
		"Base": {Base: num(0)}, "Base's Parts": {Base: api.Value{Parts: []api.Value{{}}}}, "Back": {Back: num(0)}, "Back's S": {Back: api.Value{S: "a"}}, "Pairs": {Pairs: []api.Pair{{}}},
		"Inner": {Inner: []api.Lens{{}}}, "all": rename("a", "b"),
	}
}

// wrongEntries aren't right, by name; none of them has too many bytes alone.
func wrongEntries() map[string]api.Entry {
	l := rising()
	m := map[string]api.Entry{
		"zero":        {},
		"six parents": writeOf(remove(nil, 3), l[:6]...), "five parents": writeOf(remove(nil, 3), l[:5]...), "five parents of a lens": publishOf(wrap("a"), l[2:]...),
		"a parent twice": writeOf(remove(nil, 3), l[1], l[1]), "a lens's parent twice": publishOf(wrap("a"), l[1], l[1]), "the zero parent twice": writeOf(remove(nil, 3), l[0], l[0]),
		"a parent twice, others between": writeOf(remove(nil, 3), l[1], l[2], l[1]), "the last parents alike": writeOf(remove(nil, 3), l[0], l[1], l[2], l[2]),
		"parents that fall": writeOf(remove(nil, 3), l[4], l[3]), "a lens's parents that fall": publishOf(wrap("a"), l[4], l[3]), "parents that fall by their last byte": writeOf(remove(nil, 3), l[2], l[1]),
		"parents that fall at 128": writeOf(remove(nil, 3), l[5], l[4]), "the last parent falls": writeOf(remove(nil, 3), l[1], l[2], l[5], l[4]), "to the zero parent": writeOf(remove(nil, 3), l[1], l[0]),
		"Write without an operation": writeOf(api.Op{}), "Publish without a lens": publishOf(api.Lens{}), "an operation that isn't right": writeOf(remove(nil, 0)), "one behind itself": writeOf(move(nil, 2, 2)),
		"a Delete with a value": writeOf(api.Op{Kind: api.Delete, Id: 1, Value: num(1)}), "a Set of six deep": writeOf(set(nil, inLists(num(1), 5))), "a Set at nine steps": writeOf(set(slices.Repeat(steps("a"), 9), num(1))),
		"a lens that isn't right": publishOf(rename("a", "a")), "a lens six deep": publishOf(within(wrap("a"), 5)), "a lens without its inner one": publishOf(in("a")),
	}
	for _, kind := range []int{-256, -2, -1, 0, 3, 4, 255, 256, 257, 258, 1 << 32, 1<<32 + 1, 1<<32 + 2} {
		write, publish := writeOf(remove(nil, 3)), publishOf(wrap("a"))
		write.Kind, publish.Kind = kind, kind
		m["kind "+strconv.Itoa(kind)], m["kind of a lens "+strconv.Itoa(kind)] = write, publish
	}
	for name, o := range otherOps() {
		e := publishOf(wrap("a"))
		e.Op = o
		m["Publish with an operation's "+name] = e
	}
	for name, l := range otherLenses() {
		e := writeOf(remove(nil, 3))
		e.Lens = l
		m["Write with a lens's "+name] = e
	}
	write, publish := writeOf(remove(nil, 3)), publishOf(wrap("a"))
	write.Kind, publish.Kind = api.Publish, api.Write
	m["an operation, published"], m["a lens, written"] = write, publish
	return m
}

// checkRight: an entry is right, or not; so says the model.
func checkRight(t *testing.T, name string, e api.Entry, want bool) {
	t.Helper()
	if Right(e) != want || (wantError(e) == api.OK) != want {
		t.Errorf("%s: %v, the model: %d", name, Right(e), wantError(e))
	}
}

// TestRight: P17.1: of each kind, all that is named, as it may be and as it may not.
func TestRight(t *testing.T) {
	for name, e := range rightEntries() {
		checkRight(t, name, e, true)
	}
	for name, e := range wrongEntries() {
		checkRight(t, name, e, false)
	}
}

// TestRightAny: P17.1: any entries, as the model says.
func TestRightAny(t *testing.T) {
	r := chance()
	count := map[bool]int{}
	for range 10000 {
		e := someEntry(r)
		checkRight(t, "any", e, true)
		for range 1 + r.IntN(2) {
			spoil(r, &e)
		}
		want := wantError(e) == api.OK
		checkRight(t, "any, spoilt", e, want)
		count[want]++
	}
	if count[true] < 2000 || count[false] < 2000 {
		t.Errorf("%v", count)
	}
}

// TestSame: P17.1: two entries are the same, if they are so in all fields, right or not.
func TestSame(t *testing.T) {
	e := api.Entry{Kind: api.Write, Version: hash(1, 2), Parents: rising()[1:3], Op: insert(steps("a", 3), 4, 5, nums(1, 2)), Lens: in("a", rename("b", "c")), Key: api.Key{3}, Sig: api.Sig{4}}
	others := []api.Entry{{}}
	for _, change := range []func(x *api.Entry){
		func(x *api.Entry) { x.Kind = api.Publish },
		func(x *api.Entry) { x.Kind = 257 },
		func(x *api.Entry) { x.Version = hash(1, 3) },
		func(x *api.Entry) { x.Version = hash(2, 2) },
		func(x *api.Entry) { x.Parents = nil },
		func(x *api.Entry) { x.Parents = x.Parents[:1] },
		func(x *api.Entry) { x.Parents = x.Parents[1:] },
		func(x *api.Entry) { slices.Reverse(x.Parents) },
		func(x *api.Entry) { x.Parents[1][31]++ },
		func(x *api.Entry) { x.Parents = append(x.Parents, x.Parents[1]) },
		func(x *api.Entry) { x.Op = api.Op{} },
		func(x *api.Entry) { x.Op.Kind = api.Move },
		func(x *api.Entry) { x.Op.Path = nil },
		func(x *api.Entry) { x.Op.Id = 5 },
		func(x *api.Entry) { x.Op.After = 4 },
		func(x *api.Entry) { x.Op.Value = nums(1) },
		func(x *api.Entry) { x.Lens = api.Lens{} },
		func(x *api.Entry) { x.Lens.A = "b" },
		func(x *api.Entry) { x.Lens.Inner[0].B = "d" },
		func(x *api.Entry) { x.Lens.Inner = nil },
		func(x *api.Entry) { x.Lens.Base = num(1) },
		func(x *api.Entry) { x.Key = api.Key{} },
		func(x *api.Entry) { x.Key[31] = 1 },
		func(x *api.Entry) { x.Sig = api.Sig{} },
		func(x *api.Entry) { x.Sig[63] = 1 },
	} {
		x := plain(e)
		change(&x)
		others = append(others, x)
	}
	for i, x := range others {
		if Same(e, x) || Same(x, e) {
			t.Errorf("%v is the same as %v", x, e)
		}
		for k, y := range others {
			if Same(x, y) != (i == k) {
				t.Errorf("%v and %v: %v", x, y, Same(x, y))
			}
		}
	}
	empty := api.Entry{Parents: []api.Hash{}, Op: emptyOp(), Lens: emptyLens()}
	if !Same(e, plain(e)) || !Same(roomy(e), e) || !Same(empty, api.Entry{}) || !Same(api.Entry{}, empty) {
		t.Error("what is the same isn't")
	}
}

// TestSameAny: P17.1: any entries, as the library's means say.
func TestSameAny(t *testing.T) {
	r := chance()
	count := map[bool]int{}
	for range 5000 {
		e := someEntry(r)
		x := plain(e)
		if r.IntN(3) > 0 {
			spoil(r, &x)
		}
		want := equal(e, x)
		if Same(e, x) != want || Same(x, e) != want {
			t.Fatalf("%v and %v: %v", e, x, Same(e, x))
		}
		count[want]++
	}
	if count[true] < 1000 || count[false] < 1000 {
		t.Errorf("%v", count)
	}
}

// TestOwn: what is handed in isn't changed, its spare room neither.
func TestOwn(t *testing.T) {
	for _, m := range []map[string]api.Entry{rightEntries(), wrongEntries()} {
		for name, e := range m {
			e = roomy(e)
			kept := whole(e)
			Right(e)
			Same(e, e)
			Encode(e)
			Signed(e)
			Sign(api.Seed{1}, e)
			if !equal(whole(e), kept) {
				t.Errorf("%s: what is handed in has changed: %v", name, e)
			}
		}
	}
}

// TestDeep: P17.1: values of any depth, paths and parents of any number, lenses of any depth, are looked at.
func TestDeep(t *testing.T) {
	deep := inLists(num(1), 300000)
	other := inLists(num(2), 300000)
	for name, e := range map[string]api.Entry{
		"a Set": writeOf(set(nil, deep)), "an Insert": writeOf(insert(nil, 1, 0, deep)), "a Delete": writeOf(api.Op{Kind: api.Delete, Id: 1, Value: deep}), "a path": writeOf(set(slices.Repeat(steps("a"), 1000000), num(1))),
		"an operation beside a lens": {Kind: api.Publish, Lens: wrap("a"), Op: set(nil, deep)}, "a lens beside an operation": {Kind: api.Write, Op: remove(nil, 1), Lens: within(wrap("a"), 300000)},
		"a lens": publishOf(within(wrap("a"), 300000)), "a lens's value": publishOf(sample.Add("a", listOf(of(api.Int)), deep)), "parents": writeOf(remove(nil, 3), make([]api.Hash, 1000000)...),
		"no kind": {Op: set(nil, deep), Lens: within(wrap("a"), 300000)},
	} {
		if Right(e) || Signed(e) || !Same(e, e) {
			t.Errorf("%s: right, or signed, or not itself", name)
		}
		if b, err := Encode(e); len(b) > 0 || err == nil {
			t.Errorf("%s: it is encoded", name)
		}
		if x, err := Sign(api.Seed{}, e); err == nil || !equal(x, api.Entry{}) {
			t.Errorf("%s: it is signed", name)
		}
	}
	if Same(writeOf(set(nil, deep)), writeOf(set(nil, other))) {
		t.Error("two deep ones are the same")
	}
}

// TestRings: every call ends, also of entries with values, schemas and lenses that lie within themselves; these aren't right.
func TestRings(t *testing.T) {
	value, schema, lens := make([]api.Value, 1), make([]api.Schema, 1), make([]api.Lens, 1)
	value[0] = api.Value{Kind: api.List, Ids: []uint64{1}, Parts: value}
	schema[0] = api.Schema{Kind: api.List, Parts: schema}
	lens[0] = api.Lens{Kind: api.In, A: "a", Inner: lens}
	for name, e := range map[string]api.Entry{
		"a Set": writeOf(set(nil, value[0])), "a Delete": writeOf(api.Op{Kind: api.Delete, Id: 1, Value: value[0]}), "a lens": publishOf(lens[0]), "a type": publishOf(sample.Add("a", schema[0], num(1))),
		"a lens beside an operation": {Kind: api.Write, Op: remove(nil, 1), Lens: lens[0]}, "a type beside an operation": {Kind: api.Write, Op: remove(nil, 1), Lens: api.Lens{Type: schema[0]}},
		"a value beside a lens": {Kind: api.Publish, Op: api.Op{Value: value[0]}, Lens: wrap("a")},
	} {
		Same(e, e)
		_, encode := Encode(e)
		x, sign := Sign(api.Seed{}, e)
		if Right(e) || Signed(e) || encode == nil || sign == nil || !equal(x, api.Entry{}) || Same(e, writeOf(remove(nil, 1))) || Same(publishOf(wrap("a")), e) {
			t.Errorf("%s: right, or signed, or the same as another one", name)
		}
	}
}
