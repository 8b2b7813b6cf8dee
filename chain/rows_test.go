package chain

import (
	"math"
	"strconv"
	"testing"

	"dioptre/api"
)

// set is documents, one of which is set, and what they are then.
type set struct {
	docs string
	i    int
	x    string
	seed uint64
	want string
}

// row is a chain, its schemas, first documents and inverse, and what is set.
type row struct {
	name    string
	s       api.Schema
	l       []api.Lens
	schemas string
	first   string
	inverse []api.Lens
	sets    []set
}

func colour() api.Schema { return of(api.Enum, "red", "blue") }

// one is the record of a number a.
func one() api.Schema { return recordOf([]string{"a"}, of(api.Int)) }

// two is the record of this, as a, and a number k.
func two(a api.Schema) api.Schema { return recordOf([]string{"a", "k"}, a, of(api.Int)) }

// pairsOf are pairs of a number and a text.
func pairsOf(texts ...string) []api.Pair {
	var pairs []api.Pair
	for i, s := range texts {
		pairs = append(pairs, api.Pair{X: num(i + 1), Y: doc(strconv.Quote(s))})
	}
	return pairs
}

// bareRows are chains without lenses.
func bareRows() []row {
	return []row{
		{"no lens", one(), nil, "{a=int}", "{a=0}", nil, []set{{"{a=5}", 0, "{a=9}", 7, "{a=9}"}}},
		{"no lens, no field", recordOf(nil), nil, "{}", "{}", nil, []set{{"{}", 0, "{}", 7, "{}"}}},
		{"no lens on a number", of(api.Int), nil, "int", "0", nil, []set{{"5", 0, "9", 7, "9"}}},
		{"no lens on a word", colour(), nil, "#red#blue", "#red", nil, []set{{"#red", 0, "#blue", 7, "#blue"}}},
		{"no lens on a text", of(api.Text), nil, "text", `""`, nil, []set{{`"a"`, 0, `"b"`, 7, `"b"`}}},
		{"no lens on a list", listOf(of(api.Bool)), nil, "[bool]", "[]", nil, []set{{"[1:true]", 0, "[2:false,1:true]", 7, "[2:false,1:true]"}}},
	}
}

// plainRows are chains of lenses by which fields stand elsewhere.
func plainRows() []row {
	number := of(api.Int)
	nested := recordOf([]string{"q", "r"}, recordOf(nil), recordOf([]string{"x", "y"}, number, of(api.Text)))
	abcd := "{a=1} {b=2} {c=3} {d=4}"
	return []row{
		{"one Rename", two(number), []api.Lens{rename("a", "b")}, "{a=int,k=int} {b=int,k=int}", "{a=0,k=0} {b=0,k=0}", []api.Lens{rename("b", "a")}, []set{
			{"{a=1,k=2} {b=3,k=4}", 0, "{a=5,k=6}", 7, "{a=5,k=6} {b=5,k=6}"},
			{"{a=1,k=2} {b=3,k=4}", 1, "{b=5,k=6}", 7, "{a=5,k=6} {b=5,k=6}"},
		}},
		{"three Renames", one(), []api.Lens{rename("a", "b"), rename("b", "c"), rename("c", "d")}, "{a=int} {b=int} {c=int} {d=int}", "{a=0} {b=0} {c=0} {d=0}", []api.Lens{rename("d", "c"), rename("c", "b"), rename("b", "a")}, []set{
			{abcd, 0, "{a=9}", 7, "{a=9} {b=9} {c=9} {d=9}"},
			{abcd, 1, "{b=9}", 7, "{a=9} {b=9} {c=9} {d=9}"},
			{abcd, 2, "{c=9}", 7, "{a=9} {b=9} {c=9} {d=9}"},
			{abcd, 3, "{d=9}", 7, "{a=9} {b=9} {c=9} {d=9}"},
			{abcd, 0, "{a=1}", 7, "{a=1} {b=1} {c=1} {d=1}"},
			{abcd, 2, "{c=3}", 7, "{a=3} {b=3} {c=3} {d=3}"},
			{"{a=5} {b=5} {c=5} {d=5}", 1, "{b=5}", 7, "{a=5} {b=5} {c=5} {d=5}"},
		}},
		{"a Rename and its inverse", one(), []api.Lens{rename("a", "b"), rename("b", "a")}, "{a=int} {b=int} {a=int}", "{a=0} {b=0} {a=0}", []api.Lens{rename("a", "b"), rename("b", "a")}, []set{
			{"{a=1} {b=2} {a=3}", 0, "{a=9}", 7, "{a=9} {b=9} {a=9}"},
			{"{a=1} {b=2} {a=3}", 1, "{b=9}", 7, "{a=9} {b=9} {a=9}"},
			{"{a=1} {b=2} {a=3}", 2, "{a=9}", 7, "{a=9} {b=9} {a=9}"},
		}},
		{"Hoist, Plunge", nested, []api.Lens{hoist("r", "x"), plunge("q", "x")}, "{q={},r={x=int,y=text}} {q={},r={y=text},x=int} {q={x=int},r={y=text}}", `{q={},r={x=0,y=""}} {q={},r={y=""},x=0} {q={x=0},r={y=""}}`, []api.Lens{hoist("q", "x"), plunge("r", "x")}, []set{
			{`{q={},r={x=1,y="a"}} {q={},r={y="b"},x=2} {q={x=3},r={y="c"}}`, 0, `{q={},r={x=9,y="z"}}`, 7, `{q={},r={x=9,y="z"}} {q={},r={y="z"},x=9} {q={x=9},r={y="z"}}`},
			{`{q={},r={x=1,y="a"}} {q={},r={y="b"},x=2} {q={x=3},r={y="c"}}`, 2, `{q={x=9},r={y="z"}}`, 7, `{q={},r={x=9,y="z"}} {q={},r={y="z"},x=9} {q={x=9},r={y="z"}}`},
		}},
	}
}

// lossRows are chains of lenses by which fields come and go, or have another type: what is lost at one is told by what was there.
func lossRows() []row {
	number, flag := of(api.Int), of(api.Bool)
	k := recordOf([]string{"k"}, number)
	named := convert("a", of(api.Text), doc(`"many"`), num(7), pairsOf("one", "two")...)
	first := convert("a", flag, truth(1), doc(`"one"`), api.Pair{X: doc(`"one"`), Y: truth(0)})
	apart := "{a=1,k=2} {k=2} {a=false,k=2}"
	return []row{
		{"Add, Remove", k, []api.Lens{add("n", flag, truth(1)), remove("n", flag, truth(0))}, "{k=int} {k=int,n=bool} {k=int}", "{k=0} {k=0,n=true} {k=0}", []api.Lens{add("n", flag, truth(0)), remove("n", flag, truth(1))}, []set{
			{"{k=1} {k=1,n=false} {k=1}", 0, "{k=9}", 7, "{k=9} {k=9,n=false} {k=9}"},
			{"{k=1} {k=1,n=false} {k=1}", 2, "{k=9}", 7, "{k=9} {k=9,n=false} {k=9}"},
			{"{k=1} {k=1,n=false} {k=1}", 1, "{k=9,n=true}", 7, "{k=9} {k=9,n=true} {k=9}"},
		}},
		{"Remove, Add", two(number), []api.Lens{remove("a", number, num(5)), add("a", flag, truth(1))}, "{a=int,k=int} {k=int} {a=bool,k=int}", "{a=0,k=0} {k=0} {a=true,k=0}", []api.Lens{remove("a", flag, truth(1)), add("a", number, num(5))}, []set{
			{apart, 0, "{a=7,k=8}", 7, "{a=7,k=8} {k=8} {a=false,k=8}"},
			{apart, 1, "{k=0}", 7, "{a=1,k=0} {k=0} {a=false,k=0}"},
			{apart, 2, "{a=true,k=9}", 7, "{a=1,k=9} {k=9} {a=true,k=9}"},
			{apart, 2, "{a=true,k=2}", 7, "{a=1,k=2} {k=2} {a=true,k=2}"},
		}},
		{"two Converts", one(), []api.Lens{named, first}, "{a=int} {a=text} {a=bool}", `{a=0} {a="many"} {a=true}`,
			[]api.Lens{convert("a", of(api.Text), doc(`"one"`), truth(1), api.Pair{X: truth(0), Y: doc(`"one"`)}), convert("a", number, num(7), doc(`"many"`), api.Pair{X: doc(`"one"`), Y: num(1)}, api.Pair{X: doc(`"two"`), Y: num(2)})}, []set{
				{`{a=0} {a="many"} {a=true}`, 0, "{a=1}", 7, `{a=1} {a="one"} {a=true}`},
				{`{a=0} {a="many"} {a=false}`, 0, "{a=2}", 7, `{a=2} {a="two"} {a=true}`},
				{`{a=0} {a="many"} {a=true}`, 2, "{a=false}", 7, `{a=1} {a="one"} {a=false}`},
				{`{a=0} {a="many"} {a=true}`, 1, `{a="x"}`, 7, `{a=7} {a="x"} {a=true}`},
				{`{a=0} {a="many"} {a=true}`, 0, "{a=5}", 7, `{a=5} {a="many"} {a=true}`},
				{`{a=1} {a="one"} {a=false}`, 2, "{a=true}", 7, `{a=1} {a="one"} {a=true}`},
			}},
	}
}

// listRows are chains of lenses by which fields are put into lists, or taken out of them.
func listRows() []row {
	number, flag := of(api.Int), of(api.Bool)
	ones := recordOf([]string{"l", "r"}, listOf(one()), one())
	heads := "{a=[3:1,4:2]} {a=1} {a=[5:1,6:7]}"
	within := "{l=[],r={a=0}} {l=[],r={a=0,n=true}} {l=[],r={a=0,n=true}}"
	return []row{
		{"Rename, Wrap, Add", one(), []api.Lens{rename("a", "b"), wrap("b"), add("n", flag, truth(1))}, "{a=int} {b=int} {b=[int]} {b=[int],n=bool}", "{a=0} {b=0} {b=[]} {b=[],n=true}", []api.Lens{remove("n", flag, truth(1)), headOf("b"), rename("b", "a")}, []set{
			{"{a=0} {b=0} {b=[]} {b=[],n=true}", 1, "{b=4}", 6, "{a=4} {b=4} {b=[6:4]} {b=[6:4],n=true}"},
			{"{a=4} {b=4} {b=[6:4]} {b=[6:4],n=true}", 3, "{b=[1:9,6:4],n=false}", 6, "{a=9} {b=9} {b=[1:9,6:4]} {b=[1:9,6:4],n=false}"},
			{"{a=4} {b=4} {b=[6:4]} {b=[6:4],n=false}", 2, "{b=[]}", 6, "{a=0} {b=0} {b=[]} {b=[],n=false}"},
		}},
		{"Add, Rename, Wrap", recordOf([]string{"k"}, number), []api.Lens{add("n", number, num(5)), rename("n", "m"), wrap("m")}, "{k=int} {k=int,n=int} {k=int,m=int} {k=int,m=[int]}", "{k=0} {k=0,n=5} {k=0,m=5} {k=0,m=[1:5]}", []api.Lens{headOf("m"), rename("m", "n"), remove("n", number, num(5))}, []set{
			{"{k=1} {k=1,n=2} {k=1,m=2} {k=1,m=[3:2,4:9]}", 0, "{k=7}", 6, "{k=7} {k=7,n=2} {k=7,m=2} {k=7,m=[3:2,4:9]}"},
			{"{k=1} {k=2,n=3} {k=4,m=5} {k=6,m=[8:9]}", 0, "{k=7}", 6, "{k=7} {k=7,n=3} {k=7,m=3} {k=7,m=[8:3]}"},
			{"{k=1} {k=2,n=3} {k=4,m=5} {k=6,m=[8:9]}", 2, "{k=0,m=1}", 6, "{k=0} {k=0,n=1} {k=0,m=1} {k=0,m=[8:1]}"},
			{"{k=1} {k=2,n=3} {k=4,m=5} {k=6,m=[8:9]}", 3, "{k=0,m=[]}", 6, "{k=0} {k=0,n=0} {k=0,m=0} {k=0,m=[]}"},
			{"{k=1} {k=2,n=3} {k=4,m=5} {k=6,m=[]}", 1, "{k=0,n=2}", 6, "{k=0} {k=0,n=2} {k=0,m=2} {k=0,m=[6:2]}"},
		}},
		{"two Wraps", one(), []api.Lens{wrap("a"), wrap("a")}, "{a=int} {a=[int]} {a=[[int]]}", "{a=0} {a=[]} {a=[]}", []api.Lens{headOf("a"), headOf("a")}, []set{
			{"{a=0} {a=[]} {a=[]}", 0, "{a=4}", 6, "{a=4} {a=[6:4]} {a=[6:[6:4]]}"},
			{"{a=0} {a=[]} {a=[]}", 0, "{a=4}", 0, "{a=4} {a=[1:4]} {a=[1:[1:4]]}"},
			{"{a=0} {a=[]} {a=[]}", 0, "{a=4}", math.MaxUint64, "{a=4} {a=[18446744073709551615:4]} {a=[18446744073709551615:[18446744073709551615:4]]}"},
			{"{a=0} {a=[]} {a=[]}", 0, "{a=0}", 6, "{a=0} {a=[]} {a=[]}"},
			{"{a=0} {a=[]} {a=[]}", 1, "{a=[2:0]}", 6, "{a=0} {a=[2:0]} {a=[6:[2:0]]}"},
			{"{a=0} {a=[]} {a=[]}", 2, "{a=[3:[2:9,1:1],4:[]]}", 6, "{a=9} {a=[2:9,1:1]} {a=[3:[2:9,1:1],4:[]]}"},
			{"{a=1} {a=[5:1]} {a=[8:[5:1],9:[]]}", 1, "{a=[2:9]}", 6, "{a=9} {a=[2:9]} {a=[8:[2:9],9:[]]}"},
		}},
		{"Head, Wrap", recordOf([]string{"a"}, listOf(number)), []api.Lens{headOf("a"), wrap("a")}, "{a=[int]} {a=int} {a=[int]}", "{a=[]} {a=0} {a=[]}", []api.Lens{headOf("a"), wrap("a")}, []set{
			{heads, 0, "{a=[8:9,4:2]}", 7, "{a=[8:9,4:2]} {a=9} {a=[5:9,6:7]}"},
			{heads, 1, "{a=1}", 7, heads},
			{heads, 1, "{a=9}", 7, "{a=[3:9,4:2]} {a=9} {a=[5:9,6:7]}"},
			{heads, 2, "{a=[]}", 7, "{a=[3:0,4:2]} {a=0} {a=[]}"},
			{"{a=[]} {a=0} {a=[]}", 2, "{a=[5:9,6:7]}", 3, "{a=[3:9]} {a=9} {a=[5:9,6:7]}"},
			{"{a=[]} {a=0} {a=[]}", 1, "{a=9}", 3, "{a=[3:9]} {a=9} {a=[3:9]}"},
		}},
		{"In, Map", ones, []api.Lens{in("r", add("n", flag, truth(1))), each("l", wrap("a"))}, "{l=[{a=int}],r={a=int}} {l=[{a=int}],r={a=int,n=bool}} {l=[{a=[int]}],r={a=int,n=bool}}", within, []api.Lens{each("l", headOf("a")), in("r", remove("n", flag, truth(1)))}, []set{
			{within, 0, "{l=[2:{a=5},3:{a=0}],r={a=4}}", 7, "{l=[2:{a=5},3:{a=0}],r={a=4}} {l=[2:{a=5},3:{a=0}],r={a=4,n=true}} {l=[2:{a=[7:5]},3:{a=[]}],r={a=4,n=true}}"},
			{within, 2, "{l=[3:{a=[9:1]}],r={a=1,n=false}}", 7, "{l=[3:{a=1}],r={a=1}} {l=[3:{a=1}],r={a=1,n=false}} {l=[3:{a=[9:1]}],r={a=1,n=false}}"},
		}},
	}
}

func rows() []row {
	var l []row
	for _, some := range [][]row{bareRows(), plainRows(), lossRows(), listRows()} {
		l = append(l, some...)
	}
	return l
}

// TestRows: P16.1: each chain's schemas, first documents and inverse; and so says the model.
func TestRows(t *testing.T) {
	for _, c := range rows() {
		all, e := Schemas(c.s, c.l...)
		if want, _ := wantSchemas(c.s, c.l); e != nil || schemas(all) != c.schemas || !sameSchemas(all, want) {
			t.Fatalf("%s: Schemas tells %s %v, not %s, the model: %s", c.name, schemas(all), e, c.schemas, schemas(want))
		}
		first, e := First(c.s, c.l...)
		if want := wantFirsts(all, c.l); e != nil || texts(first) != c.first || texts(want) != c.first {
			t.Errorf("%s: First tells %s %v, not %s, the model: %s", c.name, texts(first), e, c.first, texts(want))
		}
		turned, e := Inverse(c.s, c.l...)
		if e != nil || !sameLenses(turned, c.inverse) {
			t.Errorf("%s: Inverse tells %v %v, not %v", c.name, turned, e, c.inverse)
		}
		if !Consistent(c.s, first, c.l...) {
			t.Errorf("%s: the first documents aren't consistent", c.name)
		}
	}
}

// TestSet: P16.2, P16.3: of each chain what becomes of the documents, if one is set; and so says the model, and the chain that is turned about.
func TestSet(t *testing.T) {
	for _, c := range rows() {
		for _, x := range c.sets {
			got, e := Set(c.s, docs(x.docs), x.i, doc(x.x), x.seed, c.l...)
			if want := wantSets(c.s, c.l, docs(x.docs), x.i, doc(x.x), x.seed); e != nil || texts(got) != x.want || texts(want) != x.want {
				t.Errorf("%s: of %s the one at %d set to %s: %s %v, not %s, the model: %s", c.name, x.docs, x.i, x.x, texts(got), e, x.want, texts(want))
			}
			checkStays(t, c.name, c.s, docs(x.want), c.l)
			checkTurned(t, c.name, c.s, docs(x.docs), x.i, doc(x.x), x.seed, c.l)
		}
	}
}
