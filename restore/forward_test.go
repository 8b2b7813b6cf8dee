package restore

import (
	"math"
	"slices"
	"strconv"
	"strings"
	"testing"

	"dioptre/api"
	"dioptre/lens"
	"dioptre/schema"
)

// Types of which the rows are made.
func colour() api.Schema { return of(api.Enum, "red", "blue") }

func pair() api.Schema { return recordOf([]string{"x", "y"}, of(api.Int), of(api.Text)) }

// with is the record of a number k and these fields.
func with(names string, parts ...api.Schema) api.Schema {
	return schema.With(recordOf(strings.Fields(names), parts...), "k", of(api.Int))
}

// named is a Convert of numbers to texts: 1, and 11, are one, 2 is two and deux.
func named(a string) api.Lens {
	return convert(a, of(api.Text), doc(`"many"`), num(7), pairsOf(1, "one", 2, "two", 11, "one", 2, "deux")...)
}

// pairsOf are pairs of numbers and texts, laid one behind the other.
func pairsOf(l ...any) []api.Pair {
	var pairs []api.Pair
	for i := 0; i < len(l); i += 2 {
		pairs = append(pairs, api.Pair{X: num(l[i].(int)), Y: doc(strconv.Quote(l[i+1].(string)))})
	}
	return pairs
}

// row is two documents, and where one comes to from the one, the other being there: forward and back.
type row struct {
	name       string
	l          api.Lens
	s          api.Schema
	a, b       string
	seed       uint64
	to, backTo string
}

// plainRows are rows of lenses by which a field comes, goes, or stands elsewhere.
func plainRows() []row {
	number, flag := of(api.Int), of(api.Bool)
	nums := listOf(number)
	outer := with("r", recordOf([]string{"x", "y"}, number, of(api.Text)))
	inner := with("r x", recordOf([]string{"y"}, of(api.Text)), number)
	return []row{
		{"Rename", rename("a", "z"), with("a", number), "{a=5,k=1}", "{k=2,z=3}", 7, "{k=1,z=5}", "{a=3,k=2}"},
		{"Rename, to the beginning", rename("k", "_"), with("a", number), "{a=5,k=1}", "{_=3,a=2}", 7, "{_=1,a=5}", "{a=2,k=3}"},
		{"Rename, in its place", rename("k", "l"), with("a z", number, flag), "{a=5,k=1,z=true}", "{a=2,l=3,z=false}", 7, "{a=5,l=1,z=true}", "{a=2,k=3,z=false}"},
		{"Rename of a list", rename("l", "a"), with("l", nums), "{k=1,l=[2:5,1:6]}", "{a=[],k=2}", 7, "{a=[2:5,1:6],k=1}", "{k=2,l=[]}"},
		{"Rename of a record that has that field", rename("r", "x"), outer, `{k=1,r={x=1,y="a"}}`, `{k=2,x={x=2,y="b"}}`, 7, `{k=1,x={x=1,y="a"}}`, `{k=2,r={x=2,y="b"}}`},
		{"Rename, the same", rename("a", "z"), with("a", number), "{a=5,k=1}", "{k=1,z=5}", 7, "{k=1,z=5}", "{a=5,k=1}"},
		{"Add", add("n", flag, truth(1)), with("a", number), "{a=5,k=1}", "{a=1,k=2,n=false}", 7, "{a=5,k=1,n=false}", "{a=1,k=2}"},
		{"Add of a list", add("b", nums, doc("[1:1]")), with("a", number), "{a=5,k=1}", "{a=1,b=[4:4,3:3],k=2}", 7, "{a=5,b=[4:4,3:3],k=1}", "{a=1,k=2}"},
		{"Add, related", add("n", flag, truth(1)), with("a", number), "{a=5,k=1}", "{a=5,k=1,n=false}", 7, "{a=5,k=1,n=false}", "{a=5,k=1}"},
		{"Add to nothing", add("n", flag, truth(1)), recordOf(nil), "{}", "{n=false}", 7, "{n=false}", "{}"},
		{"Remove", remove("n", flag, truth(1)), with("n", flag), "{k=1,n=false}", "{k=2}", 7, "{k=1}", "{k=2,n=false}"},
		{"Remove of a record", remove("r", pair(), doc(`{x=0,y=""}`)), outer, `{k=1,r={x=1,y="a"}}`, "{k=2}", 7, "{k=1}", `{k=2,r={x=1,y="a"}}`},
		{"Remove of all", remove("n", flag, truth(1)), recordOf([]string{"n"}, flag), "{n=false}", "{}", 7, "{}", "{n=false}"},
		{"Hoist", hoist("r", "x"), outer, `{k=1,r={x=2,y="a"}}`, `{k=3,r={y="b"},x=4}`, 7, `{k=1,r={y="a"},x=2}`, `{k=3,r={x=4,y="b"}}`},
		{"Hoist of all", hoist("r", "x"), with("r", recordOf([]string{"x"}, nums)), "{k=1,r={x=[3:2]}}", "{k=3,r={},x=[]}", 7, "{k=1,r={},x=[3:2]}", "{k=3,r={x=[]}}"},
		{"Hoist, the same", hoist("r", "x"), outer, `{k=1,r={x=2,y="a"}}`, `{k=1,r={y="a"},x=2}`, 7, `{k=1,r={y="a"},x=2}`, `{k=1,r={x=2,y="a"}}`},
		{"Plunge", plunge("r", "x"), inner, `{k=3,r={y="b"},x=4}`, `{k=1,r={x=2,y="a"}}`, 7, `{k=3,r={x=4,y="b"}}`, `{k=1,r={y="a"},x=2}`},
		{"Plunge of a record", plunge("r", "s"), with("r s", recordOf(nil), pair()), `{k=3,r={},s={x=1,y="a"}}`, `{k=1,r={s={x=2,y="b"}}}`, 7, `{k=3,r={s={x=1,y="a"}}}`, `{k=1,r={},s={x=2,y="b"}}`},
		{"Plunge of a name that is within", plunge("r", "x"), with("r x", recordOf([]string{"z"}, number), pair()), `{k=3,r={z=2},x={x=1,y="a"}}`, `{k=1,r={x={x=2,y="b"},z=4}}`, 7, `{k=3,r={x={x=1,y="a"},z=2}}`, `{k=1,r={z=4},x={x=2,y="b"}}`},
	}
}

// listRows are rows of lenses by which a field is put into a list, or taken out of it.
func listRows() []row {
	number := of(api.Int)
	nums, one := listOf(number), with("a", number)
	twelve := "[1:1,2:2,3:3,4:4,5:5,6:6,7:7,8:8,9:9,10:10,11:11,12:12]"
	return []row{
		{"Wrap, into an empty list", wrap("a"), one, "{a=5,k=1}", "{a=[],k=2}", 7, "{a=[7:5],k=1}", "{a=0,k=2}"},
		{"Wrap, the seed 0", wrap("a"), one, "{a=5,k=1}", "{a=[],k=1}", 0, "{a=[1:5],k=1}", "{a=0,k=1}"},
		{"Wrap, the seed 1", wrap("a"), one, "{a=5,k=1}", "{a=[],k=1}", 1, "{a=[1:5],k=1}", "{a=0,k=1}"},
		{"Wrap, the greatest seed", wrap("a"), one, "{a=5,k=1}", "{a=[],k=1}", math.MaxUint64, "{a=[18446744073709551615:5],k=1}", "{a=0,k=1}"},
		{"Wrap, the head", wrap("a"), one, "{a=5,k=1}", "{a=[3:5,4:2],k=2}", 7, "{a=[3:5,4:2],k=1}", "{a=5,k=2}"},
		{"Wrap, another head", wrap("a"), one, "{a=5,k=1}", "{a=[3:1,4:2],k=2}", 7, "{a=[3:5,4:2],k=1}", "{a=1,k=2}"},
		{"Wrap, what stands behind the head", wrap("a"), one, "{a=5,k=1}", "{a=[3:1,4:5],k=1}", 7, "{a=[3:5,4:5],k=1}", "{a=1,k=1}"},
		{"Wrap, the default", wrap("a"), one, "{a=0,k=1}", "{a=[],k=2}", 7, "{a=[],k=1}", "{a=0,k=2}"},
		{"Wrap, the default, into a list", wrap("a"), one, "{a=0,k=1}", "{a=[3:1],k=1}", 7, "{a=[3:0],k=1}", "{a=1,k=1}"},
		{"Wrap, the default, which stands there", wrap("a"), one, "{a=0,k=1}", "{a=[3:0],k=2}", 7, "{a=[3:0],k=1}", "{a=0,k=2}"},
		{"Wrap, twelve", wrap("a"), one, "{a=5,k=1}", "{a=" + twelve + ",k=1}", 7, "{a=" + strings.Replace(twelve, "1:1,", "1:5,", 1) + ",k=1}", "{a=1,k=1}"},
		{"Wrap of a word", wrap("a"), with("a", colour()), "{a=#blue,k=1}", "{a=[],k=1}", 7, "{a=[7:#blue],k=1}", "{a=#red,k=1}"},
		{"Wrap of the first word", wrap("a"), with("a", colour()), "{a=#red,k=1}", "{a=[],k=1}", 7, "{a=[],k=1}", "{a=#red,k=1}"},
		{"Wrap of a text", wrap("a"), with("a", of(api.Text)), `{a="",k=1}`, "{a=[],k=2}", 7, "{a=[],k=1}", `{a="",k=2}`},
		{"Wrap of a bool", wrap("a"), with("a", of(api.Bool)), "{a=true,k=1}", "{a=[],k=2}", 7, "{a=[7:true],k=1}", "{a=false,k=2}"},
		{"Wrap of a list", wrap("a"), with("a", nums), "{a=[2:5],k=1}", "{a=[],k=1}", 2, "{a=[2:[2:5]],k=1}", "{a=[],k=1}"},
		{"Wrap of an empty list", wrap("a"), with("a", nums), "{a=[],k=1}", "{a=[3:[1:1],4:[]],k=1}", 7, "{a=[3:[],4:[]],k=1}", "{a=[1:1],k=1}"},
		{"Wrap of an empty list, into one", wrap("a"), with("a", nums), "{a=[],k=1}", "{a=[],k=2}", 7, "{a=[],k=1}", "{a=[],k=2}"},
		{"Wrap of a list of the same elements, in another order", wrap("a"), with("a", nums), "{a=[1:1,2:2],k=1}", "{a=[9:[2:2,1:1]],k=1}", 7, "{a=[9:[1:1,2:2]],k=1}", "{a=[2:2,1:1],k=1}"},
		{"Wrap of a record", wrap("a"), with("a", pair()), `{a={x=1,y=""},k=1}`, "{a=[],k=1}", 7, `{a=[7:{x=1,y=""}],k=1}`, `{a={x=0,y=""},k=1}`},
		{"Wrap of a record of defaults", wrap("a"), with("a", pair()), `{a={x=0,y=""},k=1}`, "{a=[],k=2}", 7, "{a=[],k=1}", `{a={x=0,y=""},k=2}`},
		{"Head", headOf("a"), with("a", nums), "{a=[3:1,4:2],k=1}", "{a=9,k=2}", 7, "{a=1,k=1}", "{a=[3:9,4:2],k=2}"},
		{"Head, the same", headOf("a"), with("a", nums), "{a=[3:1,4:2],k=1}", "{a=1,k=2}", 7, "{a=1,k=1}", "{a=[3:1,4:2],k=2}"},
		{"Head of an empty list", headOf("a"), with("a", nums), "{a=[],k=1}", "{a=9,k=2}", 7, "{a=0,k=1}", "{a=[7:9],k=2}"},
		{"Head of an empty list, the seed 0", headOf("a"), with("a", nums), "{a=[],k=1}", "{a=9,k=2}", 0, "{a=0,k=1}", "{a=[1:9],k=2}"},
		{"Head of an empty list, the default", headOf("a"), with("a", nums), "{a=[],k=1}", "{a=0,k=2}", 7, "{a=0,k=1}", "{a=[],k=2}"},
		{"Head of an empty list of words", headOf("a"), with("a", listOf(colour())), "{a=[],k=1}", "{a=#blue,k=2}", 7, "{a=#red,k=1}", "{a=[7:#blue],k=2}"},
		{"Head of an empty list of lists", headOf("a"), with("a", listOf(nums)), "{a=[],k=1}", "{a=[2:1],k=2}", 7, "{a=[],k=1}", "{a=[7:[2:1]],k=2}"},
	}
}

// convertRows are rows of lenses by which a field has another type.
func convertRows() []row {
	number := of(api.Int)
	one := with("a", number)
	to := convert("a", colour(), word("blue"), num(0))
	return []row{
		{"Convert", named("a"), one, "{a=2,k=1}", `{a="x",k=2}`, 7, `{a="two",k=1}`, "{a=7,k=2}"},
		{"Convert, a pair's", named("a"), one, "{a=1,k=1}", `{a="two",k=2}`, 7, `{a="one",k=1}`, "{a=2,k=2}"},
		{"Convert, of like Xs the first", named("a"), one, "{a=2,k=1}", `{a="one",k=2}`, 7, `{a="two",k=1}`, "{a=1,k=2}"},
		{"Convert, of like Xs a later one, which becomes this", named("a"), one, "{a=2,k=1}", `{a="deux",k=2}`, 7, `{a="deux",k=1}`, "{a=2,k=2}"},
		{"Convert, of like Ys the first", named("a"), one, "{a=5,k=1}", `{a="one",k=2}`, 7, `{a="many",k=1}`, "{a=1,k=2}"},
		{"Convert, of like Ys a later one, which this becomes", named("a"), one, "{a=11,k=1}", `{a="one",k=2}`, 7, `{a="one",k=1}`, "{a=11,k=2}"},
		{"Convert, of no pair", named("a"), one, "{a=5,k=1}", `{a="two",k=2}`, 7, `{a="many",k=1}`, "{a=2,k=2}"},
		{"Convert, of no pair either, which becomes this", named("a"), one, "{a=7,k=1}", `{a="x",k=2}`, 7, `{a="x",k=1}`, "{a=7,k=2}"},
		{"Convert, of no pair either, which this becomes", named("a"), one, "{a=5,k=1}", `{a="many",k=2}`, 7, `{a="many",k=1}`, "{a=5,k=2}"},
		{"Convert, without pairs, to Base", to, one, "{a=3,k=1}", "{a=#red,k=2}", 7, "{a=#blue,k=1}", "{a=0,k=2}"},
		{"Convert, without pairs, what becomes this", to, one, "{a=0,k=1}", "{a=#red,k=2}", 7, "{a=#red,k=1}", "{a=0,k=2}"},
		{"Convert, without pairs, what this becomes", to, one, "{a=3,k=1}", "{a=#blue,k=2}", 7, "{a=#blue,k=1}", "{a=3,k=2}"},
		{"Convert of a word", convert("a", of(api.Bool), truth(0), word("red"), api.Pair{X: word("blue"), Y: truth(1)}), with("a", colour()), "{a=#blue,k=1}", "{a=false,k=2}", 7, "{a=true,k=1}", "{a=#red,k=2}"},
		{"Convert to numbers again", convert("a", number, num(1), num(2), api.Pair{X: num(3), Y: num(4)}), one, "{a=3,k=1}", "{a=3,k=2}", 7, "{a=4,k=1}", "{a=2,k=2}"},
		{"Convert of a number and a word that look alike", convert("a", of(api.Text), doc(`"0"`), num(0)), one, "{a=1,k=1}", `{a="1",k=2}`, 7, `{a="0",k=1}`, "{a=0,k=2}"},
	}
}

// innerRows are rows of lenses with inner ones.
func innerRows() []row {
	number, flag := of(api.Int), of(api.Bool)
	one := recordOf([]string{"a"}, number)
	in1, of1 := with("r", one), with("l", listOf(one))
	flagged := add("n", flag, truth(1))
	deep := with("r", recordOf([]string{"l"}, listOf(one)))
	flip := convert("a", flag, truth(1), num(0))
	return []row{
		{"In, Add", in("r", flagged), in1, "{k=1,r={a=5}}", "{k=2,r={a=1,n=false}}", 7, "{k=1,r={a=5,n=false}}", "{k=2,r={a=1}}"},
		{"In, Remove", in("r", remove("a", number, num(3))), in1, "{k=1,r={a=5}}", "{k=2,r={}}", 7, "{k=1,r={}}", "{k=2,r={a=5}}"},
		{"In, Rename", in("r", rename("a", "b")), in1, "{k=1,r={a=5}}", "{k=2,r={b=1}}", 7, "{k=1,r={b=5}}", "{k=2,r={a=1}}"},
		{"In, Wrap", in("r", wrap("a")), in1, "{k=1,r={a=5}}", "{k=1,r={a=[]}}", 7, "{k=1,r={a=[7:5]}}", "{k=1,r={a=0}}"},
		{"In, Wrap, related", in("r", wrap("a")), in1, "{k=1,r={a=0}}", "{k=2,r={a=[]}}", 7, "{k=1,r={a=[]}}", "{k=2,r={a=0}}"},
		{"In of In", in("r", in("l", named("a"))), with("r", recordOf([]string{"l", "m"}, one, one)), "{k=1,r={l={a=2},m={a=1}}}", `{k=2,r={l={a="one"},m={a=3}}}`, 7, `{k=1,r={l={a="two"},m={a=1}}}`, "{k=2,r={l={a=1},m={a=3}}}"},
		{"In, of the same name", in("a", wrap("a")), with("a", one), "{a={a=5},k=1}", "{a={a=[3:1,4:5]},k=2}", 7, "{a={a=[3:5,4:5]},k=1}", "{a={a=1},k=2}"},
		{"Map, Add", each("l", flagged), of1, "{k=1,l=[2:{a=5},1:{a=6}]}", "{k=2,l=[1:{a=0,n=false}]}", 7, "{k=1,l=[2:{a=5,n=true},1:{a=6,n=false}]}", "{k=2,l=[1:{a=0}]}"},
		{"Map, in another order", each("l", flagged), of1, "{k=1,l=[1:{a=5},2:{a=6},3:{a=7}]}", "{k=1,l=[3:{a=5,n=false},1:{a=6,n=false},2:{a=7,n=true}]}", 7, "{k=1,l=[1:{a=5,n=false},2:{a=6,n=true},3:{a=7,n=false}]}", "{k=1,l=[3:{a=5},1:{a=6},2:{a=7}]}"},
		{"Map of none", each("l", flagged), of1, "{k=1,l=[]}", "{k=2,l=[1:{a=0,n=false}]}", 7, "{k=1,l=[]}", "{k=2,l=[1:{a=0}]}"},
		{"Map, none there", each("l", flagged), of1, "{k=1,l=[1:{a=5}]}", "{k=2,l=[]}", 7, "{k=1,l=[1:{a=5,n=true}]}", "{k=2,l=[]}"},
		{"Map, Remove", each("l", remove("a", number, num(3))), of1, "{k=1,l=[1:{a=5},2:{a=6}]}", "{k=2,l=[3:{},2:{}]}", 7, "{k=1,l=[1:{},2:{}]}", "{k=2,l=[3:{a=3},2:{a=6}]}"},
		{"Map, Rename", each("l", rename("a", "b")), of1, "{k=1,l=[1:{a=5},2:{a=6}]}", "{k=2,l=[2:{b=1}]}", 7, "{k=1,l=[1:{b=5},2:{b=6}]}", "{k=2,l=[2:{a=1}]}"},
		{"Map, Wrap", each("l", wrap("a")), of1, "{k=1,l=[1:{a=5},2:{a=6},3:{a=0},4:{a=1}]}", "{k=2,l=[2:{a=[9:1,8:2]},1:{a=[]},5:{a=[]},6:{a=[4:4]}]}", 7, "{k=1,l=[1:{a=[7:5]},2:{a=[9:6,8:2]},3:{a=[]},4:{a=[7:1]}]}", "{k=2,l=[2:{a=1},1:{a=0},5:{a=0},6:{a=4}]}"},
		{"Map, Head", each("l", headOf("a")), with("l", listOf(recordOf([]string{"a"}, listOf(number)))), "{k=1,l=[1:{a=[3:5,4:6]},2:{a=[]}]}", "{k=2,l=[9:{a=1},2:{a=3},1:{a=2},8:{a=0}]}", 7, "{k=1,l=[1:{a=5},2:{a=0}]}", "{k=2,l=[9:{a=[7:1]},2:{a=[7:3]},1:{a=[3:2,4:6]},8:{a=[]}]}"},
		{"Map, Convert: a new element's part is the default's, if it is what that becomes", each("l", flip), of1, "{k=1,l=[1:{a=0},2:{a=5},3:{a=0}]}", "{k=2,l=[3:{a=true}]}", 7, "{k=1,l=[1:{a=false},2:{a=true},3:{a=true}]}", "{k=2,l=[3:{a=0}]}"},
		{"Map, Convert, back", each("l", convert("a", number, num(0), truth(1))), with("l", listOf(recordOf([]string{"a"}, flag))), "{k=1,l=[1:{a=true}]}", "{k=1,l=[1:{a=5},2:{a=5},3:{a=0}]}", 7, "{k=1,l=[1:{a=5}]}", "{k=1,l=[1:{a=true},2:{a=true},3:{a=false}]}"},
		{"In of Map", in("r", each("l", flagged)), deep, "{k=1,r={l=[1:{a=5},2:{a=6}]}}", "{k=2,r={l=[2:{a=1,n=false}]}}", 7, "{k=1,r={l=[1:{a=5,n=true},2:{a=6,n=false}]}}", "{k=2,r={l=[2:{a=1}]}}"},
		{"Map of In", each("l", in("r", flagged)), with("l", listOf(recordOf([]string{"r"}, one))), "{k=1,l=[1:{r={a=5}},2:{r={a=6}}]}", "{k=2,l=[2:{r={a=1,n=false}}]}", 7, "{k=1,l=[1:{r={a=5,n=true}},2:{r={a=6,n=false}}]}", "{k=2,l=[2:{r={a=1}}]}"},
	}
}

func rows() []row {
	return slices.Concat(plainRows(), listRows(), convertRows(), innerRows())
}

// check: one comes to there, forward and back; and so says the model.
func (c row) check(t *testing.T) {
	t.Helper()
	v, e := Forward(c.l, c.s, doc(c.a), doc(c.b), c.seed)
	if want := wantForward(c.l, c.s, doc(c.a), doc(c.b), c.seed); e != nil || text(v) != c.to || text(want) != c.to {
		t.Errorf("%s: Forward tells %s %v, not %s, the model: %s", c.name, text(v), e, c.to, text(want))
	}
	w, e := Back(c.l, c.s, doc(c.b), doc(c.a), c.seed)
	if want := wantBack(c.l, c.s, doc(c.b), doc(c.a), c.seed); e != nil || text(w) != c.backTo || text(want) != c.backTo {
		t.Errorf("%s: Back tells %s %v, not %s, the model: %s", c.name, text(w), e, c.backTo, text(want))
	}
	checkTies(t, c.name, c.l, c.s, doc(c.a), v)
	checkTies(t, c.name, c.l, c.s, w, doc(c.b))
}

// checkTies: P15.4: two documents are related, and stay as they are, whatever the seed is.
func checkTies(t *testing.T, name string, l api.Lens, s api.Schema, a, b api.Value) {
	t.Helper()
	if !Related(l, s, a, b) || !wantRelated(l, s, a, b) {
		t.Errorf("%s: %s and %s aren't related", name, text(a), text(b))
	}
	v, e := Forward(l, s, a, b, 5)
	w, f := Back(l, s, b, a, 5)
	if e != nil || f != nil || !equal(v, b) || !equal(w, a) {
		t.Errorf("%s: %s and %s don't stay: %s %v, %s %v", name, text(a), text(b), text(v), e, text(w), f)
	}
}

// TestRows: P15.2, P15.4: of each kind, where one comes to, forward and back, also within others.
func TestRows(t *testing.T) {
	inAll := 0
	for _, c := range rows() {
		c.check(t)
		inAll += c.checkWithin(t, in("w", c.l), recordOf([]string{"w"}, c.s), "{w=", "}")
		inAll += c.checkWithin(t, each("w", c.l), recordOf([]string{"w"}, listOf(c.s)), "{w=[8:", "]}")
	}
	if inAll < 100 {
		t.Error("within others:", inAll)
	}
}

// checkWithin: the row holds within another lens, too, if that goes; it tells how many were checked.
func (c row) checkWithin(t *testing.T, l api.Lens, s api.Schema, ahead, behind string) int {
	t.Helper()
	if _, e := lens.Target(l, s); e != nil {
		return 0
	}
	c.name, c.l, c.s = c.name+", within "+ahead, l, s
	for _, d := range []*string{&c.a, &c.b, &c.to, &c.backTo} {
		*d = ahead + *d + behind
	}
	c.check(t)
	return 1
}

// TestExample: the chapter's own one, and the whole's.
func TestExample(t *testing.T) {
	s := recordOf([]string{"a"}, of(api.Int))
	row{"the chapter's", wrap("a"), s, "{a=5}", "{a=[]}", 7, "{a=[7:5]}", "{a=0}"}.check(t)
	row{"the whole's", wrap("a"), s, "{a=9}", "{a=[7:5]}", 3, "{a=[7:9]}", "{a=5}"}.check(t)
	row{"the whole's", rename("a", "b"), s, "{a=5}", "{b=1}", 3, "{b=5}", "{a=1}"}.check(t)
}
