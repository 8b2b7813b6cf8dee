package delta

import (
	"slices"
	"testing"

	"dioptre/api"
	"dioptre/op"
	"dioptre/path"
	"dioptre/sample"
	"dioptre/schema"
)

// TestBetween: P13.1, P13.4: of each kind, what leads from one document to another one; none, if they are the same.
func TestBetween(t *testing.T) {
	enum, numbers := of(api.Enum, "red", "blue"), listOf(of(api.Int))
	for _, c := range []struct {
		name string
		s    api.Schema
		a, b api.Value
	}{
		{"numbers", of(api.Int), num(1), num(2)},
		{"the same number", of(api.Int), num(1), num(1)},
		{"bools", of(api.Bool), truth(0), truth(1)},
		{"texts", of(api.Text), text("a"), text("")},
		{"words", enum, word("red"), word("blue")},
		{"no fields", recordOf(nil), record(nil), record(nil)},
		{"a field", recordOf([]string{"a", "b"}, of(api.Int), enum), record([]string{"a", "b"}, num(1), word("red")), record([]string{"a", "b"}, num(1), word("blue"))},
		{"all fields", recordOf([]string{"a", "b"}, of(api.Int), enum), record([]string{"a", "b"}, num(1), word("red")), record([]string{"a", "b"}, num(2), word("blue"))},
		{"no elements", numbers, nums(), nums()},
		{"elements that come", numbers, nums(), nums(3, 1, 2)},
		{"elements that go", numbers, nums(3, 1, 2), nums()},
		{"the same elements", numbers, nums(3, 1, 2), nums(3, 1, 2)},
		{"others", numbers, nums(3, 1, 2), nums(6, 4, 5)},
		{"one that comes ahead", numbers, nums(1, 2), nums(3, 1, 2)},
		{"one that comes between", numbers, nums(1, 2), nums(1, 3, 2)},
		{"one that comes behind", numbers, nums(1, 2), nums(1, 2, 3)},
		{"turned about", numbers, nums(1, 2, 3, 4), nums(4, 3, 2, 1)},
		{"turned round", numbers, nums(1, 2, 3, 4), nums(4, 1, 2, 3)},
		{"turned round, the other way", numbers, nums(1, 2, 3, 4), nums(2, 3, 4, 1)},
		{"all at once", numbers, nums(1, 2, 3, 4, 5, 6), nums(7, 6, 2, 8, 1, 3)},
		{"twelve others", numbers, nums(1, 2, 3, 4, 5, 6, 7, 8, 9, 10, 11, 12), nums(13, 14, 15, 16, 17, 18, 19, 20, 21, 22, 23, 24)},
		{"twelve, half of them others", numbers, nums(1, 2, 3, 4, 5, 6, 7, 8, 9, 10, 11, 12), nums(21, 12, 22, 10, 23, 8, 24, 6, 25, 4, 26, 2)},
		{"an element's part", numbers, nums(1, 2), list([]uint64{1, 2}, num(10), num(5))},
		{"an element's part, and its place", numbers, nums(1, 2), list([]uint64{2, 1}, num(5), num(6))},
		{"one number, unlike parts, in a list of lists", listOf(numbers), list([]uint64{1, 2}, nums(1), nums(1, 2)), list([]uint64{2, 1}, nums(3, 2), nums())},
		{"the chapter's", recordOf([]string{"a", "b"}, of(api.Int), of(api.Int)), record([]string{"a", "b"}, num(1), num(2)), record([]string{"a", "b"}, num(1), num(3))},
	} {
		t.Run(c.name, func(t *testing.T) {
			checkBetween(t, c.s, c.a, c.b)
			checkBetween(t, c.s, c.b, c.a)
			checkBetween(t, c.s, c.a, c.a)
		})
	}
}

// TestBetweenExample: P13.1: the chapter's example: {a=1,b=2} to {a=1,b=3}: Set of 3 at b.
func TestBetweenExample(t *testing.T) {
	s := recordOf([]string{"a", "b"}, of(api.Int), of(api.Int))
	l, e := Between(s, record([]string{"a", "b"}, num(1), num(2)), record([]string{"a", "b"}, num(1), num(3)))
	if e != nil || len(l) != 1 || !op.Same(l[0], api.Op{Kind: api.Set, Path: steps("b"), Value: num(3)}) {
		t.Errorf("%v %v", l, e)
	}
}

// TestBetweenErrors: P13.1: ErrArg of a schema that isn't right, then ErrType of what doesn't fit; beside them there are no operations.
func TestBetweenErrors(t *testing.T) {
	s := recordOf([]string{"a", "b"}, of(api.Int), listOf(of(api.Bool)))
	v := record([]string{"a", "b"}, num(1), list(nil))
	other := record([]string{"a", "b"}, num(2), list([]uint64{3}, truth(1)))
	others := []api.Value{
		{}, num(1), list(nil), record([]string{"a"}, num(1)), record([]string{"a", "b"}, num(1), num(2)), record([]string{"a", "c"}, num(1), list(nil)),
		record([]string{"a", "b"}, num(1), list([]uint64{1}, num(2))), record([]string{"a", "b"}, num(1), list([]uint64{0}, truth(1))),
		record([]string{"a", "b"}, num(1), list([]uint64{1}, truth(2))), {Kind: api.Record, N: 1, Names: v.Names, Parts: v.Parts}, {Kind: 7}, inLists(num(1), 6),
	}
	check := func(name string, s api.Schema, a, b api.Value, code api.Errno) {
		t.Helper()
		l, e := Between(s, a, b)
		checkCode(t, name, e, code)
		if code != api.OK && len(l) > 0 {
			t.Errorf("%s: %v", name, l)
		}
	}
	check("right", s, v, other, api.OK)
	for _, x := range others {
		check("a doesn't fit", s, x, v, api.ErrType)
		check("b doesn't fit", s, v, x, api.ErrType)
		check("neither fits", s, x, x, api.ErrType)
		for _, wrong := range []api.Schema{{}, {Kind: 7}, of(api.Int, "a"), of(api.Enum), {Kind: api.List}, recordOf([]string{"b", "a"}, of(api.Int), of(api.Int))} {
			check("a schema that isn't right", wrong, v, other, api.ErrArg)
			check("a schema that isn't right, and a", wrong, x, other, api.ErrArg)
			check("a schema that isn't right, and b", wrong, v, x, api.ErrArg)
		}
	}
	deep := listOf(listOf(listOf(listOf(listOf(of(api.Int))))))
	check("a schema six deep", deep, inLists(num(1), 5), inLists(num(2), 5), api.ErrArg)
	check("five deep", deep.Parts[0], inLists(num(1), 4), inLists(num(2), 4), api.OK)
	check("very deep values", of(api.Int), inLists(num(1), 1000000), num(1), api.ErrType)
}

// TestBetweenAny: P13.1, P13.4: any documents of any schemas, near each other and far from each other.
func TestBetweenAny(t *testing.T) {
	r := chance()
	count := map[int]int{}
	for range 3000 {
		s := sample.SomeSchema(r.IntN, 4)
		a := sample.SomeFit(r.IntN, s)
		b := near(r, s, a)
		if r.IntN(3) == 0 {
			b = sample.SomeFit(r.IntN, s)
		}
		if !schema.Fits(b, s) {
			t.Fatal("b doesn't fit", s, b)
		}
		for _, o := range checkBetween(t, s, a, b) {
			count[o.Kind]++
		}
		checkBetween(t, s, b, a)
	}
	if len(count) != 4 || min(count[1], count[2], count[3], count[4]) < 500 {
		t.Errorf("%v", count)
	}
}

// TestBetweenOrders: P13.1: all orders of five elements, and those of four, three, of which some come or go.
func TestBetweenOrders(t *testing.T) {
	s := listOf(of(api.Int))
	var orders [][]uint64
	var grow func(ids []uint64)
	grow = func(ids []uint64) {
		orders = append(orders, ids)
		for id := uint64(1); id <= 5; id++ {
			if !slices.Contains(ids, id) {
				grow(append(ids[:len(ids):len(ids)], id))
			}
		}
	}
	grow(nil)
	for _, a := range orders {
		if len(a) == 0 || slices.IsSorted(a) {
			for _, b := range orders {
				checkBetween(t, s, nums(a...), nums(b...))
			}
		}
	}
}

// TestBetweenLarge: P13.1: documents with as many parts as they may have, each of which is another one.
func TestBetweenLarge(t *testing.T) {
	s, a, b := of(api.Int), num(1), num(2)
	for range 4 {
		s = listOf(s)
		x, y := list(nil), list(nil)
		for i := range uint64(12) {
			x.Ids, x.Parts = append(x.Ids, i+1), append(x.Parts, a)
			y.Ids, y.Parts = append(y.Ids, 12-i), append(y.Parts, b)
		}
		a, b = x, y
	}
	l, e := Between(s, a, b)
	if got := op.Apply(s, a, l...); e != nil || !equal(got, b) {
		t.Errorf("Between: %d operations, %v", len(l), e)
	}
}

// TestBetweenOwn: what is handed in is neither changed nor kept, and no two operations share anything.
func TestBetweenOwn(t *testing.T) {
	r := chance()
	for range 1500 {
		s := sample.SomeSchema(r.IntN, 4)
		a := roomy(sample.SomeFit(r.IntN, s))
		b := roomy(near(r, s, a))
		wholeA, wholeB := whole(a), whole(b)
		unchanged := func() bool { return equal(whole(a), wholeA) && equal(whole(b), wholeB) }
		l, e := Between(s, a, b)
		kept, e2 := Between(s, a, b)
		if e != nil || e2 != nil || !unchanged() || !slices.EqualFunc(l, kept, op.Same) {
			t.Fatalf("what is handed in has changed, or other operations are told of it: %v %v", a, b)
		}
		for i, o := range l {
			scramblePath(o.Path)
			scramble(o.Value)
			if !slices.EqualFunc(l[i+1:], kept[i+1:], op.Same) {
				t.Fatalf("two operations share: %v", kept)
			}
		}
		if !unchanged() {
			t.Fatalf("the answer shares with what is handed in: %v %v", a, b)
		}
		l, _ = Between(s, a, b)
		scramble(a)
		scramble(b)
		if !slices.EqualFunc(l, kept, op.Same) {
			t.Fatalf("what is handed in is kept: %v, not %v", l, kept)
		}
	}
}

// checkPaths: Paths tells this, and so does the model.
func checkPaths(t *testing.T, name string, a, b api.Value, want ...[]api.Step) {
	t.Helper()
	if got := Paths(a, b); !samePaths(got, want) || !samePaths(wantPaths(a, b), want) {
		t.Errorf("%s: %v, not %v, the model: %v", name, got, want, wantPaths(a, b))
	}
}

// TestPaths: P13.2: what has no parts in either, is there in both, and isn't the same.
func TestPaths(t *testing.T) {
	names := []string{"a", "b", "c"}
	checkPaths(t, "numbers", num(1), num(2), nil)
	checkPaths(t, "the same number", num(1), num(1))
	checkPaths(t, "bools", truth(0), truth(1), nil)
	checkPaths(t, "texts", text("a"), text("b"), nil)
	checkPaths(t, "words", word("a"), word("b"), nil)
	checkPaths(t, "the same word", word("a"), word("a"))
	checkPaths(t, "no fields", record(nil), record(nil))
	checkPaths(t, "no fields, and some", record(nil), record([]string{"a"}, num(1)))
	checkPaths(t, "fields, and none", record([]string{"a"}, num(1)), record(nil))
	checkPaths(t, "fields", record(names, num(1), text("x"), num(3)), record(names, num(2), text("x"), num(4)), steps("a"), steps("c"))
	checkPaths(t, "other fields", record([]string{"a", "c"}, num(1), num(2)), record([]string{"b", "c"}, num(3), num(4)), steps("c"))
	checkPaths(t, "no elements", nums(), nums())
	checkPaths(t, "no elements, and some", nums(), nums(1))
	checkPaths(t, "elements, and none", nums(1), nums())
	checkPaths(t, "other elements", nums(1, 2), nums(3, 4))
	checkPaths(t, "elements in another order", nums(1, 2), nums(2, 1))
	checkPaths(t, "elements in a's order", nums(3, 1, 2), list([]uint64{1, 2, 3}, num(1), num(2), num(3)), steps(3), steps(1), steps(2))
	checkPaths(t, "elements in both", nums(3, 1, 2), list([]uint64{2, 4, 3}, num(1), num(2), num(30)), steps(2))
	checkPaths(t, "an empty list in one", record(names, nums(), nums(1), nums()), record(names, nums(1), nums(), nums()))
	checkPaths(t, "deep", record(names, num(1), inLists(num(1), 3), num(2)), record(names, num(0), inLists(num(2), 3), num(2)), steps("a"), steps("b", 1, 1, 1))
	checkPaths(t, "deepest", inLists(num(1), 4), inLists(num(2), 4), steps(1, 1, 1, 1))
	checkPaths(t, "within elements", list([]uint64{5, 6}, record(names, num(1), num(2), num(3)), record(names, num(4), num(5), num(6))),
		list([]uint64{6, 5}, record(names, num(1), num(5), num(3)), record(names, num(1), num(5), num(6))),
		steps(5, "b"), steps(5, "c"), steps(6, "a"), steps(6, "c"))
}

// TestPathsWrong: P13.2: none of values that aren't right; where kinds are unlike, it ends.
func TestPathsWrong(t *testing.T) {
	v := record([]string{"a", "b"}, num(1), nums(1, 2))
	for _, x := range []api.Value{
		{}, {Kind: 7}, truth(2), inLists(num(1), 5), inLists(num(1), 1000000), word("A"),
		record([]string{"b", "a"}, num(1), num(2)), record([]string{"a", "b"}, num(2)), record([]string{"a", "b"}, num(2), truth(2)), record([]string{"a", "b"}, num(2), list([]uint64{1, 1}, num(3), num(4))),
		{Kind: api.Record, N: 1, Names: []string{"a"}, Parts: []api.Value{num(2)}}, {Kind: api.Int, N: 2, S: "x"},
	} {
		if got := Paths(v, x); len(got) > 0 {
			t.Errorf("Paths to %v: %v", x, got)
		}
		if got := Paths(x, v); len(got) > 0 {
			t.Errorf("Paths from %v: %v", x, got)
		}
		if got := Paths(x, num(1)); len(got) > 0 {
			t.Errorf("Paths from %v to a number: %v", x, got)
		}
		if got := Paths(num(1), x); len(got) > 0 {
			t.Errorf("Paths from a number to %v: %v", x, got)
		}
	}
	for _, x := range []api.Value{num(1), text("x"), nums(1), record(nil), record([]string{"a", "b"}, nums(), text("x")), record([]string{"a", "b"}, nums(3), record(nil))} {
		Paths(v, x)
		Paths(x, v)
	}
}

// TestPathsAny: P13.2: any documents of one schema, as the model says.
func TestPathsAny(t *testing.T) {
	r := chance()
	count := 0
	for range 3000 {
		s := sample.SomeSchema(r.IntN, 4)
		a := roomy(sample.SomeFit(r.IntN, s))
		b := roomy(near(r, s, a))
		if r.IntN(3) == 0 {
			b = roomy(sample.SomeFit(r.IntN, s))
		}
		wholeA, wholeB := whole(a), whole(b)
		want := wantPaths(a, b)
		got := Paths(a, b)
		if !samePaths(got, want) {
			t.Fatalf("Paths(%v, %v): %v, not %v", a, b, got, want)
		}
		for i, p := range got {
			if !path.Right(p) {
				t.Errorf("Paths(%v, %v): %v isn't right", a, b, p)
			}
			scramblePath(p)
			if !samePaths(got[i+1:], want[i+1:]) {
				t.Fatalf("two paths share: %v", want)
			}
		}
		if !equal(whole(a), wholeA) || !equal(whole(b), wholeB) {
			t.Fatalf("what is handed in has changed: %v %v", a, b)
		}
		count += len(got)
	}
	if count < 2000 {
		t.Error("paths:", count)
	}
}
