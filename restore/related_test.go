package restore

import (
	"strings"
	"testing"

	"dioptre/api"
	"dioptre/schema"
	"dioptre/trial"
)

// checkRelated: whether two documents are related, and so says the model.
func checkRelated(t *testing.T, name string, l api.Lens, s api.Schema, a, b api.Value, want bool) {
	t.Helper()
	if got, model := Related(l, s, a, b), wantRelated(l, s, a, b); got != want || model != want {
		t.Errorf("%s: %s and %s: Related is %v, the model's %v", name, text(a), text(b), got, model)
	}
}

// TestRelated: P15.1: of each kind documents that are related, and such that differ from these in one thing.
func TestRelated(t *testing.T) {
	number, flag := of(api.Int), of(api.Bool)
	nums, one := listOf(number), recordOf([]string{"a"}, number)
	outer := with("r", recordOf([]string{"x", "y"}, number, number))
	inner := with("r x", recordOf([]string{"y"}, number), number)
	flip := convert("a", flag, truth(0), num(0), api.Pair{X: num(1), Y: truth(1)}, api.Pair{X: num(1), Y: truth(0)}, api.Pair{X: num(2), Y: truth(1)})
	for _, c := range []struct {
		name string
		l    api.Lens
		s    api.Schema
		a    string
		yes  string
		no   string
	}{
		{"Rename", rename("a", "z"), with("a", number), "{a=5,k=1}", "{k=1,z=5}", "{k=2,z=5} {k=1,z=6} {k=5,z=1}"},
		{"Add", add("n", flag, truth(1)), with("a", number), "{a=5,k=1}", "{a=5,k=1,n=true} {a=5,k=1,n=false}", "{a=6,k=1,n=true} {a=5,k=2,n=true}"},
		{"Remove", remove("a", number, num(1)), with("a", number), "{a=5,k=1}", "{k=1}", "{k=2} {k=5}"},
		{"Hoist", hoist("r", "x"), outer, "{k=1,r={x=2,y=3}}", "{k=1,r={y=3},x=2}", "{k=2,r={y=3},x=2} {k=1,r={y=2},x=2} {k=1,r={y=3},x=3} {k=1,r={y=2},x=3}"},
		{"Plunge", plunge("r", "x"), inner, "{k=1,r={y=3},x=2}", "{k=1,r={x=2,y=3}}", "{k=2,r={x=2,y=3}} {k=1,r={x=3,y=3}} {k=1,r={x=2,y=2}} {k=1,r={x=3,y=2}}"},
		{"Wrap", wrap("a"), with("a", number), "{a=5,k=1}", "{a=[3:5],k=1} {a=[3:5,4:6],k=1} {a=[4:5],k=1}", "{a=[],k=1} {a=[3:6,4:5],k=1} {a=[3:6],k=1} {a=[3:5],k=2}"},
		{"Wrap of the default", wrap("a"), with("a", number), "{a=0,k=1}", "{a=[],k=1} {a=[3:0],k=1}", "{a=[3:1,4:0],k=1} {a=[],k=2}"},
		{"Head", headOf("a"), with("a", nums), "{a=[3:5,4:6],k=1}", "{a=5,k=1}", "{a=6,k=1} {a=0,k=1} {a=5,k=2}"},
		{"Head of none", headOf("a"), with("a", nums), "{a=[],k=1}", "{a=0,k=1}", "{a=1,k=1} {a=0,k=2}"},
		{"Head of none of words", headOf("a"), with("a", listOf(colour())), "{a=[],k=1}", "{a=#red,k=1}", "{a=#blue,k=1}"},
		{"Convert", flip, with("a", number), "{a=1,k=1}", "{a=true,k=1} {a=false,k=1}", "{a=true,k=2}"},
		{"Convert, a later pair", flip, with("a", number), "{a=2,k=1}", "{a=true,k=1}", "{a=false,k=1} {a=true,k=2}"},
		{"Convert, no pair", flip, with("a", number), "{a=3,k=1}", "{a=false,k=1}", "{a=true,k=1} {a=false,k=2}"},
		{"Convert, Back", flip, with("a", number), "{a=0,k=1}", "{a=false,k=1}", "{a=true,k=1}"},
		{"Convert, Back, and Base", named("a"), with("a", number), "{a=7,k=1}", `{a="many",k=1} {a="x",k=1} {a="",k=1}`, `{a="one",k=1} {a="two",k=1} {a="deux",k=1}`},
		{"In", in("r", wrap("a")), with("r", one), "{k=1,r={a=5}}", "{k=1,r={a=[3:5,4:6]}}", "{k=2,r={a=[3:5]}} {k=1,r={a=[]}}"},
		{"Map", each("l", wrap("a")), with("l", listOf(one)), "{k=1,l=[2:{a=5},1:{a=0}]}", "{k=1,l=[2:{a=[1:5]},1:{a=[]}]} {k=1,l=[2:{a=[1:5]},1:{a=[1:0]}]}",
			"{k=2,l=[2:{a=[1:5]},1:{a=[]}]} {k=1,l=[1:{a=[]},2:{a=[1:5]}]} {k=1,l=[2:{a=[1:5]}]} {k=1,l=[2:{a=[1:5]},1:{a=[]},3:{a=[]}]} {k=1,l=[2:{a=[1:5]},3:{a=[]}]} {k=1,l=[2:{a=[]},1:{a=[]}]} {k=1,l=[2:{a=[1:5]},1:{a=[1:1]}]} {k=1,l=[]}"},
		{"Map of none", each("l", wrap("a")), with("l", listOf(one)), "{k=1,l=[]}", "{k=1,l=[]}", "{k=2,l=[]} {k=1,l=[1:{a=[]}]}"},
	} {
		for _, b := range strings.Fields(c.yes) {
			checkRelated(t, c.name, c.l, c.s, doc(c.a), doc(b), true)
			checkTies(t, c.name, c.l, c.s, doc(c.a), doc(b))
		}
		for _, b := range strings.Fields(c.no) {
			checkRelated(t, c.name, c.l, c.s, doc(c.a), doc(b), false)
		}
	}
}

// TestFirst: P15.1: of each kind the first one.
func TestFirst(t *testing.T) {
	number, flag := of(api.Int), of(api.Bool)
	one := recordOf([]string{"a"}, number)
	flagged := add("n", flag, truth(1))
	for _, c := range []struct {
		name string
		l    api.Lens
		s    api.Schema
		want string
	}{
		{"Rename", rename("a", "z"), with("a", colour()), "{k=0,z=#red}"},
		{"Add", flagged, with("a", colour()), "{a=#red,k=0,n=true}"},
		{"Add of a word", add("n", colour(), word("blue")), with(""), "{k=0,n=#blue}"},
		{"Add of a list", add("a", listOf(number), doc("[3:1,2:2]")), with("b", flag), "{a=[3:1,2:2],b=false,k=0}"},
		{"Add to nothing", flagged, recordOf(nil), "{n=true}"},
		{"Remove", remove("n", flag, truth(1)), with("n", flag), "{k=0}"},
		{"Remove of all", remove("n", flag, truth(1)), recordOf([]string{"n"}, flag), "{}"},
		{"Hoist", hoist("r", "x"), with("r", pair()), `{k=0,r={y=""},x=0}`},
		{"Plunge", plunge("r", "x"), with("r x", one, colour()), "{k=0,r={a=0,x=#red}}"},
		{"Wrap", wrap("a"), with("a", number), "{a=[],k=0}"},
		{"Head", headOf("a"), with("a", listOf(colour())), "{a=#red,k=0}"},
		{"Head of lists", headOf("a"), with("a", listOf(listOf(number))), "{a=[],k=0}"},
		{"Convert: the default, not Base", convert("a", flag, truth(1), num(0), api.Pair{X: num(0), Y: truth(1)}), with("a", number), "{a=false,k=0}"},
		{"Convert to a word: the default, not Base", convert("a", colour(), word("blue"), num(0)), with("a", number), "{a=#red,k=0}"},
		{"In, Add", in("r", flagged), with("r", one), "{k=0,r={a=0,n=true}}"},
		{"In, Wrap", in("r", wrap("a")), with("r", one), "{k=0,r={a=[]}}"},
		{"In, Convert", in("r", convert("a", flag, truth(1), num(0))), with("r", one), "{k=0,r={a=false}}"},
		{"In of In, Add", in("r", in("r", flagged)), with("r", with("r", one)), "{k=0,r={k=0,r={a=0,n=true}}}"},
		{"In of Map, Add", in("r", each("l", flagged)), with("r", recordOf([]string{"l"}, listOf(one))), "{k=0,r={l=[]}}"},
		{"Map, Add", each("l", flagged), with("l", listOf(one)), "{k=0,l=[]}"},
	} {
		v, e := First(c.l, c.s)
		if want := wantFirst(c.l, c.s); e != nil || text(v) != c.want || text(want) != c.want {
			t.Errorf("%s: First tells %s %v, not %s, the model: %s", c.name, text(v), e, c.want, text(want))
		}
	}
}

// TestLossless: P15.3: of each kind, within others, and of lenses that aren't right.
func TestLossless(t *testing.T) {
	number := of(api.Int)
	check := func(name string, l api.Lens, want bool) {
		t.Helper()
		if Lossless(l) != want || wantLossless(l) != want {
			t.Errorf("%s: Lossless is %v, the model's %v", name, Lossless(l), wantLossless(l))
		}
	}
	for kind := -1; kind < 12; kind++ {
		check("a kind alone", api.Lens{Kind: kind}, false)
		check("a kind and a name", api.Lens{Kind: kind, A: "a"}, false)
		check("a kind and two names", api.Lens{Kind: kind, A: "a", B: "b"}, kind == api.Rename || kind == api.Hoist || kind == api.Plunge)
	}
	for _, l := range []api.Lens{rename("a", "b"), hoist("a", "b"), plunge("b", "a")} {
		for n := range 7 {
			check("within others", within(l, n), n < 5)
		}
		check("in", in("a", l), true)
		check("each", each("a", l), true)
		check("in, each", in("a", each("b", in("c", l))), true)
		check("two", in("a", l, l), false)
		check("no name", in("", l), false)
		for _, spoilt := range []func(l *api.Lens){
			func(l *api.Lens) { l.A = "" }, func(l *api.Lens) { l.B = "" }, func(l *api.Lens) { l.B = l.A }, func(l *api.Lens) { l.A = "A" },
			func(l *api.Lens) { l.Type = number }, func(l *api.Lens) { l.Base = num(1) }, func(l *api.Lens) { l.Back.N = 1 },
			func(l *api.Lens) { l.Pairs = []api.Pair{{}} }, func(l *api.Lens) { l.Inner = []api.Lens{rename("a", "b")} },
		} {
			x := l
			spoilt(&x)
			check("not right", x, false)
			check("not right, within", each("a", in("b", x)), false)
		}
	}
	for _, l := range []api.Lens{add("a", number, num(1)), remove("a", number, num(1)), wrap("a"), headOf("a"), convert("a", number, num(1), num(1)), in("a"), each("a"), {}} {
		check("with loss", l, false)
		check("with loss, in", in("a", l), false)
		check("with loss, each", each("a", in("b", l)), false)
	}
}

// checkFails: Forward, Back, and of a lens's error First, too, tell it; the documents aren't related.
func checkFails(t *testing.T, name string, l api.Lens, s api.Schema, a, b api.Value, code api.Errno) {
	t.Helper()
	v, e := Forward(l, s, a, b, 7)
	trial.Code(t, name+": Forward", e, code)
	w, e := Back(l, s, b, a, 7)
	trial.Code(t, name+": Back", e, code)
	if !equal(v, api.Value{}) || !equal(w, api.Value{}) {
		t.Errorf("%s: beside an error %v, %v", name, v, w)
	}
	checkRelated(t, name, l, s, a, b, false)
	if code == api.ErrType {
		return
	}
	v, e = First(l, s)
	trial.Code(t, name+": First", e, code)
	if !equal(v, api.Value{}) {
		t.Errorf("%s: First beside an error: %v", name, v)
	}
}

// TestErrors: P15.1, P15.2: a lens that isn't right, ahead of one that doesn't go, ahead of documents that don't fit.
func TestErrors(t *testing.T) {
	number := of(api.Int)
	s := with("a l", number, listOf(number))
	a, b := doc("{a=5,k=1,l=[]}"), doc("{a=[],k=2,l=[1:1]}")
	docs := []api.Value{a, b, {}, num(1), {Kind: 7}, doc("{}"), doc("{a=5,k=1}"), doc("{a=true,k=1,l=[]}"), doc("{a=5,k=1,l=[1:true]}"), doc("{a=5,k=1,l=[],m=1}"), doc("{a=[1:true],k=2,l=[]}"), doc("[1:{a=5,k=1,l=[]}]"),
		{Kind: api.Record, N: 1, Names: a.Names, Parts: a.Parts}, fields([]string{"a", "k", "l"}, num(5), num(1), list([]uint64{0}, num(1))), fields([]string{"a", "k", "l"}, list([]uint64{2, 2}, num(1), num(1)), num(1), list(nil)), inLists(num(1), 6)}
	wrong := []api.Lens{{}, {Kind: 11, A: "a"}, {Kind: -1}, wrap(""), wrap("A"), rename("a", "a"), add("b", number, truth(1)), in("a"), in("a", wrap("a"), wrap("a")), {Kind: api.Wrap, A: "a", B: "b"}, within(wrap("a"), 5), convert("a", number, num(1), list(nil))}
	astray := []api.Lens{wrap("b"), rename("b", "c"), rename("a", "k"), add("a", number, num(1)), remove("a", of(api.Bool), truth(1)), hoist("a", "b"), plunge("l", "a"), headOf("a"), convert("l", number, num(1), num(1)), convert("a", number, num(1), truth(1)), in("a", wrap("a")), each("l", wrap("a"))}
	schemas := []api.Schema{{}, {Kind: 7}, number, listOf(s), recordOf([]string{"k", "a"}, number, number), recordOf([]string{"a"}), recordOf([]string{"a"}, of(api.Enum)), recordOf([]string{"a"}, listOf(listOf(listOf(listOf(number)))))}
	for i, x := range docs {
		for k, y := range docs {
			for _, l := range wrong {
				checkFails(t, "a wrong lens", l, s, x, y, api.ErrArg)
				checkFails(t, "a wrong lens, on a wrong schema", l, schemas[(i+k)%len(schemas)], x, y, api.ErrArg)
			}
			for _, l := range astray {
				checkFails(t, "a lens that doesn't go", l, s, x, y, api.ErrLens)
			}
			checkFails(t, "a schema on which none goes", wrap("a"), schemas[(i+k)%len(schemas)], x, y, api.ErrLens)
			if i != 0 || k != 1 {
				checkFails(t, "documents that don't fit", wrap("a"), s, x, y, api.ErrType)
			}
		}
	}
	if v, e := Forward(wrap("a"), s, a, b, 7); e != nil || text(v) != "{a=[7:5],k=1,l=[]}" {
		t.Error("that fit:", text(v), e)
	}
	// Who takes the source for the target would take these.
	checkFails(t, "turned about", wrap("a"), s, b, a, api.ErrType)
	checkFails(t, "turned about", rename("a", "b"), recordOf([]string{"a"}, number), doc("{b=1}"), doc("{a=1}"), api.ErrType)
	checkFails(t, "two of the source", rename("a", "b"), recordOf([]string{"a"}, number), doc("{a=1}"), doc("{a=1}"), api.ErrType)
	checkFails(t, "two of the target", rename("a", "b"), recordOf([]string{"a"}, number), doc("{b=1}"), doc("{b=1}"), api.ErrType)
}

// TestDeep: lenses, schemas and documents of any depth, and such that lie within themselves, are told by an error.
func TestDeep(t *testing.T) {
	s := recordOf([]string{"a"}, of(api.Int))
	a, b := doc("{a=1}"), doc("{a=[]}")
	deep, deepOf := inLists(num(1), 200000), of(api.Int)
	for range 200000 {
		deepOf = listOf(deepOf)
	}
	ring, ringOf, v := in("a", api.Lens{}), listOf(of(api.Int)), list([]uint64{1}, num(1))
	ring.Inner[0], ringOf.Parts[0], v.Parts[0] = ring, ringOf, v
	for _, l := range []api.Lens{within(wrap("a"), 200000), ring, add("b", deepOf, deep), add("b", ringOf, v)} {
		checkFails(t, "a deep lens", l, s, a, b, api.ErrArg)
		if Lossless(l) {
			t.Error("a deep lens is lossless")
		}
	}
	for _, x := range []api.Schema{deepOf, ringOf, recordOf([]string{"a"}, deepOf), recordOf([]string{"a"}, ringOf)} {
		checkFails(t, "a deep schema", wrap("a"), x, a, b, api.ErrLens)
	}
	for _, x := range []api.Value{deep, v, fields([]string{"a"}, deep), fields([]string{"a"}, v)} {
		checkFails(t, "a deep document", wrap("a"), s, x, b, api.ErrType)
		checkFails(t, "a deep document there", wrap("a"), s, a, x, api.ErrType)
		checkFails(t, "deep documents", wrap("a"), s, x, x, api.ErrType)
	}
	if !schema.Fits(a, s) {
		t.Error("the other one doesn't fit")
	}
}
