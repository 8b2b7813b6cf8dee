package op

import (
	"math"
	"slices"
	"testing"

	"dioptre/api"
	"dioptre/sample"
	"dioptre/schema"
	"dioptre/trial"
	"dioptre/value"
)

// TestRight: P12.1: of each kind, each field that is named, as it may be and as it may not.
func TestRight(t *testing.T) {
	p, most := steps("l"), uint64(math.MaxUint64)
	eight := steps("a", 1, "b", 2, "c", 3, "d", 4)
	for _, c := range []struct {
		name string
		o    api.Op
		want bool
	}{
		{"zero", api.Op{}, false},
		{"kind 0", api.Op{Path: p, Value: num(1)}, false},
		{"kind 0, an Id", api.Op{Path: p, Id: 1}, false},
		{"kind 5", api.Op{Kind: 5, Path: p, Id: 1}, false},
		{"kind 5, a value", api.Op{Kind: 5, Path: p, Value: num(1)}, false},
		{"kind -1", api.Op{Kind: -1, Path: p, Id: 1}, false},
		{"kind 257", api.Op{Kind: 257, Path: p, Value: num(1)}, false},

		{"Set", set(p, num(1)), true},
		{"Set of all", set(nil, record(nil)), true},
		{"Set, no steps", set([]api.Step{}, num(0)), true},
		{"Set, eight steps", set(eight, num(1)), true},
		{"Set, nine steps", set(append(slices.Clone(eight), api.Step{Name: "e"}), num(1)), false},
		{"Set, a wrong step", set(steps("A"), num(1)), false},
		{"Set, the number 0", set(steps("a", 0), num(1)), false},
		{"Set, a name and a number", set(steps(api.Step{Name: "a", Id: 1}), num(1)), false},
		{"Set of no value", set(p, api.Value{}), false},
		{"Set of a wrong value", set(p, truth(2)), false},
		{"Set of one five deep", set(p, inLists(num(1), 4)), true},
		{"Set of one six deep", set(p, inLists(num(1), 5)), false},
		{"Set with an Id", api.Op{Kind: api.Set, Path: p, Id: 1, Value: num(1)}, false},
		{"Set with an After", api.Op{Kind: api.Set, Path: p, After: 1, Value: num(1)}, false},
		{"Set with both", api.Op{Kind: api.Set, Path: p, Id: 1, After: 2, Value: num(1)}, false},

		{"Insert", insert(p, 1, 0, num(1)), true},
		{"Insert into all", insert(nil, 1, 2, num(1)), true},
		{"Insert of great numbers", insert(p, most, most-1, num(1)), true},
		{"Insert of 0", insert(p, 0, 1, num(1)), false},
		{"Insert of 0 behind 0", insert(p, 0, 0, num(1)), false},
		{"Insert behind itself", insert(p, 7, 7, num(1)), false},
		{"Insert behind itself, great", insert(p, most, most, num(1)), false},
		{"Insert of no value", insert(p, 1, 0, api.Value{}), false},
		{"Insert of a wrong value", insert(p, 1, 0, word("A")), false},
		{"Insert, a wrong step", insert(steps("l", 0), 1, 0, num(1)), false},

		{"Delete", remove(p, 1), true},
		{"Delete from all", remove(nil, most), true},
		{"Delete of 0", remove(p, 0), false},
		{"Delete with an After", api.Op{Kind: api.Delete, Path: p, Id: 1, After: 2}, false},
		{"Delete with its After", api.Op{Kind: api.Delete, Path: p, Id: 1, After: 1}, false},
		{"Delete of 0 with an After", api.Op{Kind: api.Delete, Path: p, After: 1}, false},
		{"Delete with a value", api.Op{Kind: api.Delete, Path: p, Id: 1, Value: num(0)}, false},
		{"Delete, a wrong step", remove(steps(""), 1), false},

		{"Move", move(p, 1, 2), true},
		{"Move ahead of all", move(p, 1, 0), true},
		{"Move in all", move([]api.Step{}, most, most-1), true},
		{"Move of 0", move(p, 0, 1), false},
		{"Move of 0 ahead of all", move(p, 0, 0), false},
		{"Move behind itself", move(p, 3, 3), false},
		{"Move with a value", api.Op{Kind: api.Move, Path: p, Id: 1, Value: num(0)}, false},
		{"Move, nine steps", move(slices.Repeat(steps(1), 9), 1, 2), false},
	} {
		if Right(c.o) != c.want || wantRight(c.o) != c.want {
			t.Errorf("%s: %v, the model: %v", c.name, Right(c.o), wantRight(c.o))
		}
	}
}

// TestRightZero: P12.1: Delete and Move have the zero value: each field of it is zero, a list without elements, too.
func TestRightZero(t *testing.T) {
	for _, v := range []api.Value{
		{Kind: 1}, {Kind: -1}, {N: 1}, {S: "a"}, {Names: []string{""}}, {Ids: []uint64{0}}, {Parts: []api.Value{{}}}, record(nil), list(nil), text(""),
	} {
		for _, o := range []api.Op{{Kind: api.Delete, Id: 1, Value: v}, {Kind: api.Move, Id: 1, Value: v}} {
			if Right(o) || wantRight(o) {
				t.Errorf("%v is right", o)
			}
		}
	}
	none := api.Value{Names: []string{}, Ids: make([]uint64, 0, 3), Parts: []api.Value{}}
	if !Right(api.Op{Kind: api.Delete, Id: 1, Value: none}) || !Right(api.Op{Kind: api.Move, Id: 1, Value: none}) {
		t.Error("lists without elements aren't as none")
	}
}

// TestRightAny: P12.1: any operations, as the model says.
func TestRightAny(t *testing.T) {
	r := chance()
	count := map[bool]int{}
	for range 20000 {
		s := sample.SomeSchema(r.IntN, 4)
		o := someOp(r, s, sample.SomeFit(r.IntN, s))
		for range r.IntN(3) {
			sample.SpoilOp(r.IntN, &o)
		}
		if Right(o) != wantRight(o) {
			t.Fatalf("Right of %v: %v", o, Right(o))
		}
		count[Right(o)]++
	}
	if count[true] < 3000 || count[false] < 3000 {
		t.Errorf("%v", count)
	}
}

// sheet is a record of a list of numbers, a list of records of a list of texts and a word, a number, and a list of lists.
func sheet() api.Schema {
	inner := recordOf([]string{"t", "w"}, listOf(of(api.Text)), of(api.Enum, "red", "blue"))
	return recordOf([]string{"l", "m", "n", "z"}, listOf(of(api.Int)), listOf(inner), of(api.Int), listOf(listOf(of(api.Bool))))
}

// entry is an element of the sheet's m.
func entry(w string, texts ...string) api.Value {
	l := list(nil)
	for i, s := range texts {
		l.Ids, l.Parts = append(l.Ids, uint64(i+1)), append(l.Parts, text(s))
	}
	return record([]string{"t", "w"}, l, word(w))
}

// checks are operations, and what Check of them and the sheet tells.
var checks = []struct {
	name string
	o    api.Op
	code api.Errno
}{
	{"Set of all", set(nil, record([]string{"l", "m", "n", "z"}, nums(1, 2), list([]uint64{5}, entry("red", "x")), num(3), list(nil))), api.OK},
	{"Set of all, a field lacks", set(nil, record([]string{"l", "m", "n"}, nums(1), list(nil), num(3))), api.ErrType},
	{"Set of all, a number", set(nil, num(3)), api.ErrType},
	{"Set of a number", set(steps("n"), num(-7)), api.OK},
	{"Set of a number, a bool", set(steps("n"), truth(1)), api.ErrType},
	{"Set of a number, one that isn't right", set(steps("n"), truth(2)), api.ErrArg},
	{"Set of a number, with an Id", api.Op{Kind: api.Set, Path: steps("n"), Id: 1, Value: num(1)}, api.ErrArg},
	{"Set of a list", set(steps("l"), nums(9, 8)), api.OK},
	{"Set of a list, of none", set(steps("l"), list(nil)), api.OK},
	{"Set of a list, an element of another kind", set(steps("l"), list([]uint64{1, 2}, num(1), truth(1))), api.ErrType},
	{"Set of an element", set(steps("l", 77), num(1)), api.OK},
	{"Set of an element, the list", set(steps("l", 77), nums(1)), api.ErrType},
	{"Set of an element by a name", set(steps("l", "a"), num(1)), api.ErrType},
	{"Set of an element of 0", set(steps("l", 0), num(1)), api.ErrArg},
	{"Set of no field", set(steps("x"), num(1)), api.ErrType},
	{"Set of a field by a number", set(steps(1), num(1)), api.ErrType},
	{"Set within a number", set(steps("n", "n"), num(1)), api.ErrType},
	{"Set of a word", set(steps("m", 3, "w"), word("blue")), api.OK},
	{"Set of a word that is none of them", set(steps("m", 3, "w"), word("green")), api.ErrType},
	{"Set of a text", set(steps("m", 3, "t", 4), text("x")), api.OK},
	{"Set within a text", set(steps("m", 3, "t", 4, 5), text("x")), api.ErrType},
	{"Set of eight steps", set(slices.Repeat(steps(1), 8), num(1)), api.ErrType},
	{"Set of nine steps", set(slices.Repeat(steps(1), 9), num(1)), api.ErrArg},
	{"Insert of a number", insert(steps("l"), 9, 0, num(5)), api.OK},
	{"Insert of a number behind any", insert(steps("l"), 9, 77, num(5)), api.OK},
	{"Insert of a text among numbers", insert(steps("l"), 9, 0, text("")), api.ErrType},
	{"Insert of a list among numbers", insert(steps("l"), 9, 0, nums(1)), api.ErrType},
	{"Insert of no value", insert(steps("l"), 9, 0, api.Value{}), api.ErrArg},
	{"Insert of 0", insert(steps("l"), 0, 1, num(5)), api.ErrArg},
	{"Insert behind itself", insert(steps("l"), 9, 9, num(5)), api.ErrArg},
	{"Insert into a number", insert(steps("n"), 9, 0, num(5)), api.ErrType},
	{"Insert into all", insert(nil, 9, 0, num(5)), api.ErrType},
	{"Insert into no field", insert(steps("k"), 9, 0, num(5)), api.ErrType},
	{"Insert of a record", insert(steps("m"), 9, 1, entry("red")), api.OK},
	{"Insert of a record, a wrong word", insert(steps("m"), 9, 1, entry("green")), api.ErrType},
	{"Insert into an element", insert(steps("m", 2, "t"), 9, 1, text("")), api.OK},
	{"Insert into a record of a list", insert(steps("m", 2), 9, 1, text("")), api.ErrType},
	{"Insert into a list of a list", insert(steps("z", 2), 9, 1, truth(1)), api.OK},
	{"Insert of a list into a list", insert(steps("z"), 9, 1, list([]uint64{1}, truth(0))), api.OK},
	{"Insert of a part into a list of lists", insert(steps("z"), 9, 1, truth(1)), api.ErrType},
	{"Delete", remove(steps("l"), 3), api.OK},
	{"Delete of 0", remove(steps("l"), 0), api.ErrArg},
	{"Delete in all", remove(nil, 3), api.ErrType},
	{"Delete in a number", remove(steps("n"), 3), api.ErrType},
	{"Delete in an element", remove(steps("m", 2, "t"), 3), api.OK},
	{"Delete in a word", remove(steps("m", 2, "w"), 3), api.ErrType},
	{"Delete in no field", remove(steps("m", 2, "x"), 3), api.ErrType},
	{"Delete with a value", api.Op{Kind: api.Delete, Path: steps("l"), Id: 1, Value: num(1)}, api.ErrArg},
	{"Delete, an Id of 0 in no field", remove(steps("x"), 0), api.ErrArg},
	{"Move", move(steps("l"), 3, 4), api.OK},
	{"Move ahead of all", move(steps("z", 1), 3, 0), api.OK},
	{"Move behind itself", move(steps("l"), 3, 3), api.ErrArg},
	{"Move in a number", move(steps("n"), 3, 4), api.ErrType},
	{"Move in a record", move(steps("m", 1), 3, 4), api.ErrType},
	{"Move in no field", move(steps("x"), 3, 4), api.ErrType},
	{"no kind", api.Op{Kind: 5, Path: steps("l"), Id: 1}, api.ErrArg},
	{"zero", api.Op{}, api.ErrArg},
}

// TestCheck: P12.1: each error, the one named first; else nil.
func TestCheck(t *testing.T) {
	for _, c := range checks {
		trial.Code(t, c.name, Check(c.o, sheet()), c.code)
		if want := wantCheck(c.o, sheet()); want != c.code {
			t.Errorf("%s: the model: %d", c.name, want)
		}
		for _, s := range []api.Schema{{}, {Kind: 7}, of(api.Int, "a"), of(api.Enum), {Kind: api.List}, recordOf([]string{"b", "a"}, of(api.Int), of(api.Int)), listOf(listOf(listOf(listOf(listOf(of(api.Int))))))} {
			trial.Code(t, c.name+", a schema that isn't right", Check(c.o, s), api.ErrArg)
		}
	}
	deep := listOf(listOf(listOf(listOf(of(api.Int)))))
	trial.Code(t, "deepest list", Check(insert(steps(1, 2, 3), 4, 0, num(1)), deep), api.OK)
	trial.Code(t, "deepest number", Check(set(steps(1, 2, 3, 4), num(1)), deep), api.OK)
	trial.Code(t, "deeper", Check(set(steps(1, 2, 3, 4, 5), num(1)), deep), api.ErrType)
	trial.Code(t, "a list in all", Check(move(nil, 4, 5), deep), api.OK)
	trial.Code(t, "a value six deep", Check(set(nil, inLists(num(1), 5)), deep), api.ErrArg)
}

// TestCheckAny: P12.1: any operations and schemas, as the model says.
func TestCheckAny(t *testing.T) {
	r := chance()
	count := map[api.Errno]int{}
	for range 30000 {
		s := sample.SomeSchema(r.IntN, 4)
		o := someOp(r, s, sample.SomeFit(r.IntN, s))
		if r.IntN(9) == 0 {
			s = sample.SomeSchema(r.IntN, 4)
		}
		if r.IntN(20) == 0 {
			s.Words = append(s.Words, "A")
		}
		want := wantCheck(o, s)
		trial.Code(t, "Check", Check(o, s), want)
		count[want]++
	}
	for _, code := range []api.Errno{api.OK, api.ErrArg, api.ErrType} {
		if count[code] < 2000 {
			t.Errorf("%v", count)
		}
	}
}

// TestCheckOwn: what is handed in isn't changed, its spare room neither.
func TestCheckOwn(t *testing.T) {
	s := sheet()
	s.Words = append(s.Words, "spare")[:4]
	for _, c := range checks {
		o := roomyOp(c.o)
		kept := wholeOp(o)
		Right(o)
		Check(o, s)
		Same(o, o)
		if !equal(wholeOp(o), kept) || !schema.Same(s, sheet()) || s.Words[:5][4] != "spare" {
			t.Errorf("%s: what is handed in has changed: %v", c.name, o)
		}
	}
}

// TestSame: P12.2: two operations are the same, if they are so in all fields.
func TestSame(t *testing.T) {
	o := api.Op{Kind: api.Insert, Path: steps("a", 3), Id: 4, After: 5, Value: record([]string{"x"}, nums(1, 2))}
	others := []api.Op{{}}
	for _, change := range []func(p *api.Op){
		func(p *api.Op) { p.Kind = api.Move },
		func(p *api.Op) { p.Kind = -2 },
		func(p *api.Op) { p.Path = steps("a") },
		func(p *api.Op) { p.Path = nil },
		func(p *api.Op) { p.Path = steps("a", 3, 3) },
		func(p *api.Op) { p.Path = steps("b", 3) },
		func(p *api.Op) { p.Path = steps("a", 4) },
		func(p *api.Op) { p.Path = steps(api.Step{Name: "a", Id: 3}, 3) },
		func(p *api.Op) { p.Id = 5 },
		func(p *api.Op) { p.Id = 0 },
		func(p *api.Op) { p.After = 4 },
		func(p *api.Op) { p.After = 0 },
		func(p *api.Op) { p.Id, p.After = p.After, p.Id },
		func(p *api.Op) { p.Value = api.Value{} },
		func(p *api.Op) { p.Value = record([]string{"x"}, nums(1, 3)) },
		func(p *api.Op) { p.Value = record([]string{"y"}, nums(1, 2)) },
		func(p *api.Op) { p.Value.S = "s" },
	} {
		p := o
		change(&p)
		others = append(others, p)
	}
	for i, p := range others {
		if Same(o, p) || Same(p, o) {
			t.Errorf("%v is the same as %v", p, o)
		}
		for k, q := range others {
			if Same(p, q) != (i == k) {
				t.Errorf("%v and %v: %v", p, q, Same(p, q))
			}
		}
	}
	if !Same(o, plain(o)) || !Same(roomyOp(o), o) || !Same(api.Op{Path: []api.Step{}}, api.Op{}) || !Same(api.Op{Value: api.Value{Ids: []uint64{}}}, api.Op{}) {
		t.Error("what is the same isn't")
	}
}

// TestDeep: values of any depth, and paths of any length, are looked at.
func TestDeep(t *testing.T) {
	deep, long := inLists(num(1), 1000000), slices.Repeat(steps("a"), 1000000)
	for _, o := range []api.Op{set(nil, deep), insert(nil, 1, 0, deep), {Kind: api.Delete, Id: 1, Value: deep}, {Kind: api.Move, Id: 1, Value: deep}, set(long, num(1))} {
		if Right(o) || !Same(o, o) {
			t.Error("a deep one, or a long one, is right, or not itself")
		}
		if _, e := Encode(o); e == nil || Check(o, of(api.Int)) == nil {
			t.Error("a deep one, or a long one, is encoded")
		}
	}
	if Same(set(nil, deep), set(nil, inLists(num(2), 1000000))) {
		t.Error("two deep ones are the same")
	}
	if v := Apply(of(api.Int), deep, set(nil, num(1))); !value.Same(v, deep) {
		t.Error("a deep value that doesn't fit doesn't stay")
	}
}
