package op

import (
	"slices"
	"testing"

	"dioptre/api"
	"dioptre/path"
	"dioptre/sample"
	"dioptre/schema"
)

// page is a document of the sheet.
func page() api.Value {
	return record([]string{"l", "m", "n", "z"},
		nums(3, 1, 2),
		list([]uint64{5, 6}, entry("red", "x", "y"), entry("blue")),
		num(7),
		list([]uint64{1, 2}, list([]uint64{4}, truth(1)), list(nil)))
}

// checkApply: an operation makes this of the value, and so says the model.
func checkApply(t *testing.T, name string, s api.Schema, v api.Value, o api.Op, want api.Value) {
	t.Helper()
	got := Apply(s, v, o)
	if !equalValues(got, want) || !equalValues(wantApply(s, v, o), want) {
		t.Errorf("%s: %v, not %v, the model: %v", name, got, want, wantApply(s, v, o))
	}
}

// put is the page with another value there.
func put(x api.Value, p ...api.Step) api.Value {
	v, _ := path.Put(page(), x, p...)
	return v
}

// TestSet: P12.1: the value stands at the path, if something stood there.
func TestSet(t *testing.T) {
	other := record([]string{"l", "m", "n", "z"}, list(nil), list(nil), num(0), list([]uint64{9}, list(nil)))
	checkApply(t, "all", sheet(), page(), set(nil, other), other)
	checkApply(t, "a number", sheet(), page(), set(steps("n"), num(-1)), put(num(-1), steps("n")...))
	checkApply(t, "the same number", sheet(), page(), set(steps("n"), num(7)), page())
	checkApply(t, "a list", sheet(), page(), set(steps("l"), nums(4)), put(nums(4), steps("l")...))
	checkApply(t, "an element", sheet(), page(), set(steps("l", 1), num(4)), put(num(4), steps("l", 1)...))
	checkApply(t, "no element", sheet(), page(), set(steps("l", 4), num(4)), page())
	checkApply(t, "within no element", sheet(), page(), set(steps("m", 7, "w"), word("blue")), page())
	checkApply(t, "within an element", sheet(), page(), set(steps("m", 5, "w"), word("blue")), put(word("blue"), steps("m", 5, "w")...))
	checkApply(t, "deep", sheet(), page(), set(steps("m", 5, "t", 2), text("z")), put(text("z"), steps("m", 5, "t", 2)...))
	checkApply(t, "an element of an element", sheet(), page(), set(steps("z", 1, 4), truth(0)), put(truth(0), steps("z", 1, 4)...))
	checkApply(t, "no schema but a number's", of(api.Int), num(1), set(nil, num(2)), num(2))
}

// TestInsert: P12.1: where an element comes in; none, if its number is there, or there is no room.
func TestInsert(t *testing.T) {
	s := listOf(of(api.Int))
	eleven, twelve := nums(1, 2, 3, 4, 5, 6, 7, 8, 9, 10, 11), nums(1, 2, 3, 4, 5, 6, 7, 8, 9, 10, 11, 12)
	for _, c := range []struct {
		name string
		v    api.Value
		o    api.Op
		want api.Value
	}{
		{"ahead of all", nums(3, 1, 2), insert(nil, 9, 0, num(90)), nums(9, 3, 1, 2)},
		{"behind the first one", nums(3, 1, 2), insert(nil, 9, 3, num(90)), nums(3, 9, 1, 2)},
		{"between", nums(3, 1, 2), insert(nil, 9, 1, num(90)), nums(3, 1, 9, 2)},
		{"behind the last one", nums(3, 1, 2), insert(nil, 9, 2, num(90)), nums(3, 1, 2, 9)},
		{"behind one that isn't there", nums(3, 1, 2), insert(nil, 9, 77, num(90)), nums(3, 1, 2, 9)},
		{"into none", nums(), insert(nil, 9, 0, num(90)), nums(9)},
		{"into none, behind one that isn't there", nums(), insert(nil, 9, 77, num(90)), nums(9)},
		{"there already", nums(3, 1, 2), insert(nil, 1, 0, num(5)), nums(3, 1, 2)},
		{"there already, the first one", nums(3, 1, 2), insert(nil, 3, 2, num(5)), nums(3, 1, 2)},
		{"there already, behind none", nums(3, 1, 2), insert(nil, 2, 77, num(5)), nums(3, 1, 2)},
		{"the twelfth one", eleven, insert(nil, 12, 11, num(120)), twelve},
		{"the twelfth one, ahead of all", eleven, insert(nil, 12, 0, num(120)), nums(12, 1, 2, 3, 4, 5, 6, 7, 8, 9, 10, 11)},
		{"a thirteenth one", twelve, insert(nil, 13, 12, num(130)), twelve},
		{"a thirteenth one, ahead of all", twelve, insert(nil, 13, 0, num(130)), twelve},
	} {
		checkApply(t, c.name, s, c.v, c.o, c.want)
	}
	checkApply(t, "into an element", sheet(), page(), insert(steps("z", 2), 8, 0, truth(1)), put(list([]uint64{8}, truth(1)), steps("z", 2)...))
	checkApply(t, "into no element", sheet(), page(), insert(steps("z", 3), 8, 0, truth(1)), page())
	checkApply(t, "a record", sheet(), page(), insert(steps("m"), 8, 5, entry("red", "q")), put(list([]uint64{5, 8, 6}, entry("red", "x", "y"), entry("red", "q"), entry("blue")), steps("m")...))
}

// TestDelete: P12.1: the element goes, if there is one.
func TestDelete(t *testing.T) {
	s := listOf(of(api.Int))
	checkApply(t, "the first one", s, nums(3, 1, 2), remove(nil, 3), nums(1, 2))
	checkApply(t, "between", s, nums(3, 1, 2), remove(nil, 1), nums(3, 2))
	checkApply(t, "the last one", s, nums(3, 1, 2), remove(nil, 2), nums(3, 1))
	checkApply(t, "none", s, nums(3, 1, 2), remove(nil, 9), nums(3, 1, 2))
	checkApply(t, "the only one", s, nums(5), remove(nil, 5), nums())
	checkApply(t, "of none", s, nums(), remove(nil, 5), nums())
	checkApply(t, "in an element", sheet(), page(), remove(steps("z", 1), 4), put(list(nil), steps("z", 1)...))
	checkApply(t, "in no element", sheet(), page(), remove(steps("z", 4), 4), page())
	checkApply(t, "with all that is in it", sheet(), page(), remove(steps("m"), 5), put(list([]uint64{6}, entry("blue")), steps("m")...))
}

// TestMove: P12.1: the element goes, and comes in again, with what it is made of.
func TestMove(t *testing.T) {
	s := listOf(of(api.Int))
	twelve := nums(1, 2, 3, 4, 5, 6, 7, 8, 9, 10, 11, 12)
	for _, c := range []struct {
		name      string
		v         api.Value
		id, after uint64
		want      api.Value
	}{
		{"the first one behind the next", nums(3, 1, 2), 3, 1, nums(1, 3, 2)},
		{"the first one behind the last", nums(3, 1, 2), 3, 2, nums(1, 2, 3)},
		{"the first one ahead of all", nums(3, 1, 2), 3, 0, nums(3, 1, 2)},
		{"one behind the one where it is", nums(3, 1, 2), 1, 3, nums(3, 1, 2)},
		{"one ahead of all", nums(3, 1, 2), 1, 0, nums(1, 3, 2)},
		{"one behind none", nums(3, 1, 2), 1, 77, nums(3, 2, 1)},
		{"the last one ahead of all", nums(3, 1, 2), 2, 0, nums(2, 3, 1)},
		{"the last one behind the first", nums(3, 1, 2), 2, 3, nums(3, 2, 1)},
		{"the last one behind none", nums(3, 1, 2), 2, 77, nums(3, 1, 2)},
		{"none", nums(3, 1, 2), 9, 3, nums(3, 1, 2)},
		{"none ahead of all", nums(3, 1, 2), 9, 0, nums(3, 1, 2)},
		{"the only one", nums(5), 5, 0, nums(5)},
		{"the only one behind none", nums(5), 5, 77, nums(5)},
		{"of none", nums(), 5, 0, nums()},
		{"of twelve", twelve, 12, 0, nums(12, 1, 2, 3, 4, 5, 6, 7, 8, 9, 10, 11)},
		{"of twelve, the first one", twelve, 1, 12, nums(2, 3, 4, 5, 6, 7, 8, 9, 10, 11, 12, 1)},
	} {
		checkApply(t, c.name, s, c.v, move(nil, c.id, c.after), c.want)
	}
	checkApply(t, "with all that is in it", sheet(), page(), move(steps("m"), 5, 6), put(list([]uint64{6, 5}, entry("blue"), entry("red", "x", "y")), steps("m")...))
	checkApply(t, "in no element", sheet(), page(), move(steps("m", 9, "t"), 1, 2), page())
	checkApply(t, "the chapter's", listOf(of(api.Text)), list([]uint64{1, 2}, text("a"), text("b")), move(nil, 1, 2), list([]uint64{2, 1}, text("b"), text("a")))
}

// TestNothing: P12.1: of what doesn't fit nothing is made: the operation, the value, or the schema.
func TestNothing(t *testing.T) {
	for _, c := range checks {
		if c.code != api.OK {
			checkApply(t, c.name, sheet(), page(), c.o, page())
		}
		for _, v := range []api.Value{{}, num(7), nums(1), record([]string{"n"}, num(1)), put(text("x"), steps("n")...), put(truth(2), steps("n")...), {Kind: 9, N: 3}} {
			checkApply(t, c.name+", of a value that doesn't fit", sheet(), v, c.o, v)
		}
		for _, s := range []api.Schema{{}, {Kind: 7}, of(api.Enum), recordOf([]string{"n", "l"}, of(api.Int), listOf(of(api.Int))), recordOf([]string{"n"}, of(api.Int))} {
			checkApply(t, c.name+", by a schema that doesn't fit", s, page(), c.o, page())
		}
	}
	checkApply(t, "an operation that fits the value alone", of(api.Int), nums(1, 2), remove(nil, 1), nums(1, 2))
	checkApply(t, "an operation and a value that fit one another", of(api.Bool), num(1), set(nil, num(2)), num(1))
	checkApply(t, "a schema without a part", api.Schema{Kind: api.List}, nums(1, 2), remove(nil, 1), nums(1, 2))
	for _, v := range []api.Value{page(), num(1), {}, nums()} {
		if got := Apply(sheet(), v); !equalValues(got, v) {
			t.Errorf("no operations: %v", got)
		}
	}
}

// TestMany: P12.1: operations, one behind the other; those of which nothing is made are passed over.
func TestMany(t *testing.T) {
	l := []api.Op{
		insert(steps("l"), 9, 1, num(90)), set(steps("l", 9), num(5)), insert(steps("l"), 9, 0, num(6)), remove(steps("l"), 3),
		set(steps("n"), text("x")), insert(steps("m"), 9, 0, entry("red")), insert(steps("m", 9, "t"), 4, 0, text("t")), remove(steps("l"), 0),
		remove(steps("m"), 5), set(steps("m", 5, "w"), word("blue")), move(steps("l"), 2, 0), set(steps("n"), num(1)), set(steps("n"), num(2)),
		set(steps("z"), list(nil)), insert(steps("z"), 3, 0, list(nil)), insert(steps("z", 3), 7, 7, truth(1)), insert(steps("z", 3), 7, 6, truth(1)),
	}
	want := record([]string{"l", "m", "n", "z"},
		list([]uint64{2, 1, 9}, num(20), num(10), num(5)),
		list([]uint64{9, 6}, record([]string{"t", "w"}, list([]uint64{4}, text("t")), word("red")), entry("blue")),
		num(2),
		list([]uint64{3}, list([]uint64{7}, truth(1))))
	if got := Apply(sheet(), page(), l...); !equalValues(got, want) {
		t.Errorf("%v, not %v", got, want)
	}
	slices.Reverse(l)
	v := page()
	for _, o := range l {
		v = wantApply(sheet(), v, o)
	}
	if got := Apply(sheet(), page(), l...); !equalValues(got, v) || equalValues(v, want) {
		t.Errorf("turned about: %v, not %v", got, v)
	}
}

// TestApplyAny: P12.1, P12.3: any operations, as the model says; a value that fits stays one that fits.
func TestApplyAny(t *testing.T) {
	r := chance()
	changed, full := map[int]int{}, 0
	for range 6000 {
		s := sample.SomeSchema(r.IntN, 4)
		v := sample.SomeFit(r.IntN, s)
		if r.IntN(30) == 0 {
			s = sample.SomeSchema(r.IntN, 4)
		}
		var l []api.Op
		want := v
		for range r.IntN(12) {
			o := someOp(r, s, v)
			l = append(l, o)
			next := wantApply(s, want, o)
			if !equalValues(next, want) {
				changed[o.Kind]++
			} else if there, _ := path.Get(want, o.Path...); o.Kind == api.Insert && len(there.Ids) == 12 && !slices.Contains(there.Ids, o.Id) {
				full++
			}
			want = next
		}
		got := Apply(s, v, l...)
		if !equalValues(got, want) || schema.Fits(v, s) != schema.Fits(got, s) {
			t.Fatalf("Apply(%v, %v, %v): %v, not %v", s, v, l, got, want)
		}
	}
	if len(changed) != 4 || min(changed[1], changed[2], changed[3], changed[4]) < 500 || full < 100 {
		t.Errorf("changed %v, full %d", changed, full)
	}
}

// TestApplyOwn: what is handed in is neither changed nor kept, and nothing is shared.
func TestApplyOwn(t *testing.T) {
	r := chance()
	for range 3000 {
		s := sample.SomeSchema(r.IntN, 4)
		v := roomy(sample.SomeFit(r.IntN, s))
		if r.IntN(9) == 0 {
			v = roomy(page())
		}
		var l []api.Op
		for range 1 + r.IntN(4) {
			l = append(l, roomyOp(someOp(r, s, v)))
		}
		wholeV, kept := whole(v), []api.Op{}
		for _, o := range l {
			kept = append(kept, wholeOp(o))
		}
		unchanged := func() bool {
			return equalValues(whole(v), wholeV) && slices.EqualFunc(l, kept, func(o, k api.Op) bool { return equal(wholeOp(o), k) })
		}
		got := Apply(s, v, l...)
		if !unchanged() {
			t.Fatalf("what is handed in has changed: %v, %v", v, l)
		}
		scramble(got)
		if !unchanged() {
			t.Fatalf("the answer shares with what is handed in: %v, %v", v, l)
		}
		got = Apply(s, v, l...)
		before := whole(got)
		scramble(v)
		for _, o := range l {
			scrambleOp(o)
		}
		if !equalValues(whole(got), before) {
			t.Fatalf("what is handed in is kept: %v, not %v", got, before)
		}
	}
}

// TestApplyTwice: parts that were made of one value share nothing.
func TestApplyTwice(t *testing.T) {
	s, x := listOf(listOf(of(api.Int))), nums(1, 2)
	for _, l := range [][]api.Op{
		{insert(nil, 1, 0, x), insert(nil, 2, 1, x)},
		{insert(nil, 1, 0, nums()), insert(nil, 2, 1, nums()), set(steps(1), x), set(steps(2), x)},
		{set(nil, list([]uint64{1, 2}, x, x))},
		{insert(nil, 1, 0, x), insert(nil, 2, 1, x), move(nil, 1, 2), move(nil, 2, 1)},
	} {
		got := Apply(s, list(nil), l...)
		if len(got.Parts) != 2 {
			t.Fatalf("%v: %v", l, got)
		}
		scramble(got.Parts[0])
		if !equalValues(got.Parts[1], x) {
			t.Errorf("%v: two parts share: %v", l, got)
		}
	}
}

// TestApplyLarge: of a document with as many parts as it may have each one is changed.
func TestApplyLarge(t *testing.T) {
	s, v := of(api.Int), num(1)
	for range 4 {
		s = listOf(s)
		x := list(nil)
		for i := range 12 {
			x.Ids, x.Parts = append(x.Ids, uint64(i+1)), append(x.Parts, v)
		}
		v = x
	}
	var l []api.Op
	for i, p := range path.All(v) {
		if len(p) == 4 {
			l = append(l, set(p, num(i)))
		}
	}
	v = Apply(s, v, l...)
	for i, p := range path.All(v) {
		if x, _ := path.Get(v, p...); len(p) == 4 && x.N != i {
			t.Fatalf("%v: %v, not %d", p, x, i)
		}
	}
}
