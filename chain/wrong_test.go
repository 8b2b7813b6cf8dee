package chain

import (
	"math"
	"slices"
	"strings"
	"testing"

	"dioptre/api"
	"dioptre/fault"
	"dioptre/lens"
	"dioptre/trial"
)

// checkSet: Set tells just that error, and nothing beside it; and so says the model.
func checkSet(t *testing.T, name string, s api.Schema, there []api.Value, i int, x api.Value, l []api.Lens, w trial.Wrong) {
	t.Helper()
	got, e := Set(s, there, i, x, 7, l...)
	trial.Error(t, name+": Set", e, w)
	if len(got) > 0 && w.Code != api.OK {
		t.Errorf("%s: Set beside an error: %v", name, got)
	}
	if model := wantWrong(s, there, i, x, l); model != w {
		t.Errorf("%s: Set: the model tells %v, not %v", name, model, w)
	}
}

// checkWrong: of what isn't a chain each call tells just that error, and nothing beside it, whatever the documents are.
func checkWrong(t *testing.T, name string, s api.Schema, l []api.Lens, w trial.Wrong) {
	t.Helper()
	all, e := Schemas(s, l...)
	trial.Error(t, name+": Schemas", e, w)
	first, e := First(s, l...)
	trial.Error(t, name+": First", e, w)
	turned, e := Inverse(s, l...)
	trial.Error(t, name+": Inverse", e, w)
	if len(all)+len(first)+len(turned) > 0 {
		t.Errorf("%s: beside an error %v, %v, %v", name, all, first, turned)
	}
	for _, there := range [][]api.Value{nil, docs("5"), docs("{a=1}"), docs("{a=1} {b=1}"), docs("{a=1} {b=1} {c=1}"), {{}, {}, {}}, slices.Repeat(docs("{a=1}"), len(l)+1)} {
		for _, i := range []int{-1, 0, 1, len(l), len(l) + 1} {
			checkSet(t, name, s, there, i, doc("{a=1}"), l, w)
		}
		if Consistent(s, there, l...) {
			t.Errorf("%s: %s are consistent", name, texts(there))
		}
	}
}

// TestWrongSchema: P16.1, P16.2: ErrArg of a schema that isn't right, in no place, ahead of all that is told of lenses.
func TestWrongSchema(t *testing.T) {
	number := of(api.Int)
	deep := listOf(listOf(listOf(listOf(listOf(number)))))
	for _, s := range []api.Schema{{}, {Kind: 7}, {Kind: -1}, of(api.Enum), of(api.Enum, "a", "a"), of(api.Int, "a"), {Kind: api.List}, recordOf([]string{"a"}), recordOf([]string{"b", "a"}, number, number), recordOf([]string{"A"}, number), recordOf([]string{"a"}, api.Schema{}), deep} {
		for _, l := range [][]api.Lens{nil, {rename("a", "b")}, {add("n", number, num(1)), rename("n", "m")}, {{}}, {wrap("a"), {}}} {
			checkWrong(t, "a wrong schema", s, l, noPlace(api.ErrArg))
		}
	}
}

// TestNoRecord: P16.1: on a schema that is no record's no lens goes.
func TestNoRecord(t *testing.T) {
	for _, s := range []api.Schema{of(api.Int), of(api.Bool), of(api.Text), colour(), listOf(one())} {
		for _, x := range []api.Lens{rename("a", "b"), add("n", of(api.Int), num(1)), wrap("a"), each("a", wrap("a"))} {
			checkWrong(t, "no record", s, []api.Lens{x}, trial.Wrong{Code: api.ErrLens})
			checkWrong(t, "no record, two lenses", s, []api.Lens{x, {}}, trial.Wrong{Code: api.ErrLens})
		}
		checkWrong(t, "no record, a wrong lens", s, []api.Lens{{}, rename("a", "b")}, trial.Wrong{Code: api.ErrArg})
	}
}

// TestWrongLens: P16.1: the error of the first lens that has one, in the place of its number.
func TestWrongLens(t *testing.T) {
	number := of(api.Int)
	ab, ba := rename("a", "b"), rename("b", "a")
	for _, c := range []struct {
		name  string
		l     []api.Lens
		code  api.Errno
		place int
	}{
		{"a wrong one", []api.Lens{{}}, api.ErrArg, 0},
		{"a wrong one behind others", []api.Lens{ab, ba, {Kind: 11, A: "a"}}, api.ErrArg, 2},
		{"a wrong one ahead of others", []api.Lens{{Kind: api.Rename, A: "a", B: "a"}, ab, ba}, api.ErrArg, 0},
		{"two wrong ones", []api.Lens{ab, {}, {}}, api.ErrArg, 1},
		{"one that doesn't go", []api.Lens{ba}, api.ErrLens, 0},
		{"the same twice", []api.Lens{ab, ab}, api.ErrLens, 1},
		{"one that goes on the first schema alone", []api.Lens{ab, wrap("b"), convert("a", number, num(1), num(2))}, api.ErrLens, 2},
		{"one that doesn't go, ahead of a wrong one", []api.Lens{ab, ab, {}}, api.ErrLens, 1},
		{"a wrong one, ahead of one that doesn't go", []api.Lens{ab, {}, ab}, api.ErrArg, 1},
		{"one that goes where a later one leads", []api.Lens{ab, rename("c", "d"), rename("b", "c")}, api.ErrLens, 1},
		{"ever deeper", slices.Repeat([]api.Lens{wrap("a")}, 9), api.ErrLens, 3},
		{"ever more", []api.Lens{add("b", number, num(1)), add("c", number, num(1)), add("d", number, num(1)), add("e", number, num(1)), add("f", number, num(1)), add("g", number, num(1)), add("h", number, num(1)), add("i", number, num(1))}, api.ErrLens, 7},
		{"far behind", append(slices.Repeat([]api.Lens{ab, ba}, 150), ba), api.ErrLens, 300},
	} {
		checkWrong(t, c.name, one(), c.l, trial.Wrong{Code: c.code, Place: c.place})
		// All ahead of it is a chain.
		if all, e := Schemas(one(), c.l[:c.place]...); e != nil || len(all) != c.place+1 {
			t.Errorf("%s: what is ahead of it: %v %v", c.name, all, e)
		}
	}
	_, e := Schemas(one(), ab, ab)
	if at, ok := e.(*fault.At); !ok || at.Place != 1 || at.Err != api.ErrLens {
		t.Errorf("Schemas: %v", e)
	}
}

// TestWrongSet: P16.2: ErrArg of another number of documents than of schemas, and of a number that is none of theirs, ahead of ErrType of what doesn't fit.
func TestWrongSet(t *testing.T) {
	l := []api.Lens{rename("a", "b"), wrap("b")}
	there := docs("{a=1} {b=2} {b=[3:3]}")
	misfits := append(docs("5 {} {a=true} {b=true} {c=1} {a=1,b=1} {b=[1:true]} [] #a"), api.Value{}, api.Value{Kind: 7}, fields([]string{"b"}, list([]uint64{0}, num(1))), fields([]string{"b"}, api.Value{Kind: api.Int, S: "x"}), inLists(num(1), 7))
	checkSet(t, "all is well", one(), there, 1, doc("{b=5}"), l, trial.Wrong{})
	for _, i := range []int{-1, 3, 4, math.MinInt, math.MaxInt} {
		checkSet(t, "no document's number", one(), there, i, doc("{a=5}"), l, noPlace(api.ErrArg))
		checkSet(t, "no document's number, and misfits", one(), misfits[:3], i, misfits[0], l, noPlace(api.ErrArg))
	}
	for _, few := range [][]api.Value{nil, {}, there[:1], there[:2], append(slices.Clone(there), there[2]), misfits[:2], misfits[:4]} {
		for i := -1; i < 5; i++ {
			checkSet(t, "another number of documents", one(), few, i, doc("{a=5}"), l, noPlace(api.ErrArg))
			checkSet(t, "another number of documents, and a misfit", one(), few, i, misfits[0], l, noPlace(api.ErrArg))
		}
		if Consistent(one(), few, l...) {
			t.Errorf("%s are consistent", texts(few))
		}
	}
	fit := docs("{a=5} {b=5} {b=[]}")
	for _, x := range misfits {
		for i := range there {
			checkSet(t, "a misfit is set", one(), there, i, x, l, noPlace(api.ErrType))
			for k := range there {
				wrong := slices.Clone(there)
				wrong[k] = x
				checkSet(t, "a misfit stands there", one(), wrong, i, fit[i], l, noPlace(api.ErrType))
			}
		}
	}
	for i := range there {
		for k := range there {
			if i != k {
				checkSet(t, "another schema's document is set", one(), there, i, fit[k], l, noPlace(api.ErrType))
			}
		}
	}
	checkSet(t, "turned about", one(), about(there), 1, doc("{b=5}"), l, noPlace(api.ErrType))
	checkSet(t, "no lens, no document", one(), nil, 0, doc("{a=1}"), nil, noPlace(api.ErrArg))
	checkSet(t, "no lens, two documents", one(), docs("{a=1} {a=1}"), 0, doc("{a=1}"), nil, noPlace(api.ErrArg))
	checkSet(t, "no lens, a misfit", one(), docs("{b=1}"), 0, doc("{a=1}"), nil, noPlace(api.ErrType))
	checkSet(t, "no lens, a misfit is set", one(), docs("{a=1}"), 0, doc("{b=1}"), nil, noPlace(api.ErrType))
	checkSet(t, "no record, a misfit is set", of(api.Int), docs("5"), 0, doc("true"), nil, noPlace(api.ErrType))
}

// TestConsistent: P16.2: whether there are as many documents, each fits, and each two beside each other are related.
func TestConsistent(t *testing.T) {
	number := of(api.Int)
	l := []api.Lens{rename("a", "b"), wrap("b"), add("n", of(api.Bool), truth(1))}
	for _, c := range []struct {
		name string
		s    api.Schema
		l    []api.Lens
		docs string
		want bool
	}{
		{"all", one(), l, "{a=5} {b=5} {b=[3:5,4:6]} {b=[3:5,4:6],n=false}", true},
		{"the default's", one(), l, "{a=0} {b=0} {b=[]} {b=[],n=true}", true},
		{"another first one", one(), l, "{a=6} {b=5} {b=[3:5]} {b=[3:5],n=false}", false},
		{"another second one", one(), l, "{a=5} {b=6} {b=[3:5]} {b=[3:5],n=false}", false},
		{"another one behind", one(), l, "{a=5} {b=5} {b=[3:6]} {b=[3:6],n=false}", false},
		{"another last one", one(), l, "{a=5} {b=5} {b=[3:5]} {b=[3:5,4:1],n=false}", false},
		{"unlike in the middle", one(), l, "{a=5} {b=5} {b=[3:6]} {b=[3:6],n=true}", false},
		{"one less", one(), l, "{a=5} {b=5} {b=[3:5]}", false},
		{"one more", one(), l, "{a=5} {b=5} {b=[3:5]} {b=[3:5],n=true} {b=[3:5],n=true}", false},
		{"the first one lacks", one(), l, "{b=5} {b=[3:5]} {b=[3:5],n=true}", false},
		{"none", one(), l, "", false},
		{"a misfit ahead", one(), l, "{a=true} {b=5} {b=[3:5]} {b=[3:5],n=true}", false},
		{"a misfit behind", one(), l, "{a=5} {b=5} {b=[3:5]} {b=[3:5],n=1}", false},
		{"turned about", one(), l, "{b=[3:5],n=true} {b=[3:5]} {b=5} {a=5}", false},
		{"no lens", one(), nil, "{a=5}", true},
		{"no lens, a misfit", one(), nil, "{b=5}", false},
		{"no lens, none", one(), nil, "", false},
		{"no lens, two", one(), nil, "{a=5} {a=5}", false},
		{"no lens on a number", number, nil, "5", true},
		{"no lens on a number, a misfit", number, nil, "true", false},
		{"no lens on a list", listOf(number), nil, "[4:5]", true},
		{"what is lost in the middle", two(number), []api.Lens{remove("a", number, num(1)), add("a", number, num(1))}, "{a=1,k=2} {k=2} {a=3,k=2}", true},
		{"what isn't", two(number), []api.Lens{remove("a", number, num(1)), add("a", number, num(1))}, "{a=1,k=2} {k=2} {a=1,k=3}", false},
	} {
		there := docs(c.docs)
		if got, model := Consistent(c.s, there, c.l...), wantConsistent(c.s, there, c.l); got != c.want || model != c.want {
			t.Errorf("%s: Consistent tells %v, the model %v", c.name, got, model)
		}
		if c.want {
			checkStays(t, c.name, c.s, there, c.l)
		}
	}
}

// TestDeep: lenses, schemas and documents of any depth, and such that lie within themselves, are told by an error.
func TestDeep(t *testing.T) {
	deep, deepOf := inLists(num(1), 200000), of(api.Int)
	for range 200000 {
		deepOf = listOf(deepOf)
	}
	ring, ringOf, v := in("a", api.Lens{}), listOf(of(api.Int)), list([]uint64{1}, num(1))
	ring.Inner[0], ringOf.Parts[0], v.Parts[0] = ring, ringOf, v
	for _, x := range []api.Lens{within(wrap("a"), 200000), ring, add("b", deepOf, deep), add("b", ringOf, v)} {
		checkWrong(t, "a deep lens", one(), []api.Lens{rename("a", "b"), x}, trial.Wrong{Code: api.ErrArg, Place: 1})
	}
	for _, s := range []api.Schema{deepOf, ringOf, recordOf([]string{"a"}, deepOf), recordOf([]string{"a"}, ringOf)} {
		checkWrong(t, "a deep schema", s, []api.Lens{rename("a", "b")}, noPlace(api.ErrArg))
		checkWrong(t, "a deep schema, no lens", s, nil, noPlace(api.ErrArg))
	}
	l, there := []api.Lens{rename("a", "b")}, docs("{a=1} {b=1}")
	for _, x := range []api.Value{deep, v, fields([]string{"a"}, deep), fields([]string{"a"}, v)} {
		checkSet(t, "a deep document", one(), there, 0, x, l, noPlace(api.ErrType))
		checkSet(t, "a deep document there", one(), []api.Value{x, there[1]}, 0, there[0], l, noPlace(api.ErrType))
		if Consistent(one(), []api.Value{x, there[1]}, l...) || Consistent(one(), []api.Value{there[0], x}, l...) {
			t.Error("a deep document is consistent")
		}
	}
}

// TestLong: chains of many lenses.
func TestLong(t *testing.T) {
	const n = 4000
	l := slices.Repeat([]api.Lens{rename("a", "b"), rename("b", "a")}, n/2)
	all, e := Schemas(one(), l...)
	if e != nil || len(all) != n+1 {
		t.Fatal("Schemas:", len(all), e)
	}
	turned, e := Inverse(one(), l...)
	if e != nil || len(turned) != n || !lens.Same(turned[0], l[0]) || !lens.Same(turned[1], l[1]) {
		t.Fatal("Inverse:", len(turned), e)
	}
	first, e := First(one(), l...)
	if e != nil || len(first) != n+1 || !Consistent(one(), first, l...) {
		t.Fatal("First:", len(first), e)
	}
	for _, i := range []int{0, n / 2, n} {
		got, e := Set(one(), first, i, doc("{a=5}"), 1, l...)
		if want := strings.TrimSuffix(strings.Repeat("{a=5} {b=5} ", n/2)+"{a=5}", " "); e != nil || texts(got) != want {
			t.Errorf("Set of %d: %v", i, e)
		}
	}
}
