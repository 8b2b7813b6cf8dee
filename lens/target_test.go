package lens

import (
	"maps"
	"reflect"
	"slices"
	"strings"
	"testing"

	"dioptre/api"
	"dioptre/sample"
	"dioptre/schema"
	"dioptre/trial"
)

// sheet is a record of a number, a word, a record of a number and a list of records, and lists of numbers and of records.
func sheet() api.Schema {
	return recordOf([]string{"a", "c", "l", "m", "r"}, of(api.Int), colour, listOf(of(api.Int)), listOf(pair()), box())
}

func pair() api.Schema { return recordOf([]string{"x", "y"}, of(api.Int), of(api.Text)) }

func box() api.Schema { return recordOf([]string{"l", "n"}, listOf(pair()), of(api.Int)) }

// goes are lenses that go on the sheet, the fields that become others then (those that go are zero), and their inverses.
var goes = []struct {
	name    string
	l       api.Lens
	fields  map[string]api.Schema
	inverse api.Lens
}{
	{"Rename", rename("a", "b"), map[string]api.Schema{"a": {}, "b": of(api.Int)}, rename("b", "a")},
	{"Rename, to the end", rename("a", "z"), map[string]api.Schema{"a": {}, "z": of(api.Int)}, rename("z", "a")},
	{"Rename, to the beginning", rename("r", "_"), map[string]api.Schema{"r": {}, "_": box()}, rename("_", "r")},
	{"Rename to a name within", rename("r", "n"), map[string]api.Schema{"r": {}, "n": box()}, rename("n", "r")},
	{"Add", add("b", of(api.Bool), truth(1)), map[string]api.Schema{"b": of(api.Bool)}, remove("b", of(api.Bool), truth(1))},
	{"Add of a record", add("0", pair(), fields([]string{"x", "y"}, num(3), text("t"))), map[string]api.Schema{"0": pair()}, remove("0", pair(), fields([]string{"x", "y"}, num(3), text("t")))},
	{"Add of a name within", add("n", listOf(of(api.Int)), nums(5)), map[string]api.Schema{"n": listOf(of(api.Int))}, remove("n", listOf(of(api.Int)), nums(5))},
	{"Remove", remove("a", of(api.Int), num(7)), map[string]api.Schema{"a": {}}, add("a", of(api.Int), num(7))},
	{"Remove of a word", remove("c", colour, word("blue")), map[string]api.Schema{"c": {}}, add("c", colour, word("blue"))},
	{"Remove of a list", remove("m", listOf(pair()), list(nil)), map[string]api.Schema{"m": {}}, add("m", listOf(pair()), list(nil))},
	{"Hoist", hoist("r", "n"), map[string]api.Schema{"n": of(api.Int), "r": recordOf([]string{"l"}, listOf(pair()))}, plunge("r", "n")},
	{"Plunge", plunge("r", "a"), map[string]api.Schema{"a": {}, "r": recordOf([]string{"a", "l", "n"}, of(api.Int), listOf(pair()), of(api.Int))}, hoist("r", "a")},
	{"Plunge of a word", plunge("r", "c"), map[string]api.Schema{"c": {}, "r": recordOf([]string{"c", "l", "n"}, colour, listOf(pair()), of(api.Int))}, hoist("r", "c")},
	{"Plunge of a list", plunge("r", "m"), map[string]api.Schema{"m": {}, "r": recordOf([]string{"l", "m", "n"}, listOf(pair()), listOf(pair()), of(api.Int))}, hoist("r", "m")},
	{"Wrap", wrap("a"), map[string]api.Schema{"a": listOf(of(api.Int))}, head("a")},
	{"Wrap of a list", wrap("l"), map[string]api.Schema{"l": listOf(listOf(of(api.Int)))}, head("l")},
	{"Head", head("l"), map[string]api.Schema{"l": of(api.Int)}, wrap("l")},
	{"Head of records", head("m"), map[string]api.Schema{"m": pair()}, wrap("m")},
	{"Convert", convert("a", of(api.Bool), truth(1), num(7), pairsOf(3)...), map[string]api.Schema{"a": of(api.Bool)},
		convert("a", of(api.Int), num(7), truth(1), api.Pair{X: truth(0), Y: num(0)}, api.Pair{X: truth(1), Y: num(0)}, api.Pair{X: truth(0), Y: num(1)})},
	{"Convert to itself", convert("a", of(api.Int), num(1), num(2)), map[string]api.Schema{"a": of(api.Int)}, convert("a", of(api.Int), num(2), num(1))},
	{"Convert of a word", convert("c", of(api.Enum, "x"), word("x"), word("blue"), api.Pair{X: word("red"), Y: word("x")}), map[string]api.Schema{"c": of(api.Enum, "x")},
		convert("c", colour, word("blue"), word("x"), api.Pair{X: word("x"), Y: word("red")})},
	{"In", in("r", rename("n", "a")), map[string]api.Schema{"r": recordOf([]string{"a", "l"}, of(api.Int), listOf(pair()))}, in("r", rename("a", "n"))},
	{"In, a Remove", in("r", remove("n", of(api.Int), num(4))), map[string]api.Schema{"r": recordOf([]string{"l"}, listOf(pair()))}, in("r", add("n", of(api.Int), num(4)))},
	{"Map", each("m", wrap("x")), map[string]api.Schema{"m": listOf(recordOf([]string{"x", "y"}, listOf(of(api.Int)), of(api.Text)))}, each("m", head("x"))},
	{"Map, a Convert", each("m", convert("y", of(api.Int), num(1), text("a"))), map[string]api.Schema{"m": listOf(recordOf([]string{"x", "y"}, of(api.Int), of(api.Int)))},
		each("m", convert("y", of(api.Text), text("a"), num(1)))},
	{"In of Map", in("r", each("l", rename("x", "z"))), map[string]api.Schema{"r": recordOf([]string{"l", "n"}, listOf(recordOf([]string{"y", "z"}, of(api.Text), of(api.Int))), of(api.Int))},
		in("r", each("l", rename("z", "x")))},
	{"In of Map, a Convert", in("r", each("l", convert("x", of(api.Bool), truth(0), num(2), pairsOf(1)...))), map[string]api.Schema{"r": recordOf([]string{"l", "n"}, listOf(recordOf([]string{"x", "y"}, of(api.Bool), of(api.Text))), of(api.Int))},
		in("r", each("l", convert("x", of(api.Int), num(2), truth(0), api.Pair{X: truth(0), Y: num(0)})))},
}

// checkGoes: Target and Inverse tell that; the inverse leads back, and its inverse is the lens.
func checkGoes(t *testing.T, name string, l api.Lens, s, want api.Schema, inverse api.Lens) {
	t.Helper()
	u, e := Target(l, s)
	if e != nil || !equalOf(u, want) || !schema.Right(u) {
		t.Fatalf("%s: Target of %v on %v: %v %v, not %v", name, l, s, u, e, want)
	}
	i, e := Inverse(l, s)
	if e != nil || !equal(i, inverse) || !Right(i) {
		t.Fatalf("%s: Inverse of %v on %v: %v %v, not %v", name, l, s, i, e, inverse)
	}
	back, e := Target(i, u)
	again, e2 := Inverse(i, u)
	if e != nil || e2 != nil || !equalOf(back, s) || !equal(again, l) {
		t.Errorf("%s: the inverse of %v on %v leads to %v %v, its inverse is %v %v", name, l, s, back, e, again, e2)
	}
}

// checkGoesNot: Target and Inverse tell that error.
func checkGoesNot(t *testing.T, name string, l api.Lens, s api.Schema, code api.Errno) {
	t.Helper()
	u, e := Target(l, s)
	trial.Code(t, name+": Target", e, code)
	i, e := Inverse(l, s)
	trial.Code(t, name+": Inverse", e, code)
	if !equalOf(u, api.Schema{}) || !equal(i, api.Lens{}) {
		t.Errorf("%s: beside an error %v, %v", name, u, i)
	}
	if _, want := wantTarget(l, s); want != code {
		t.Errorf("%s: the model tells %d", name, want)
	}
}

// TestGoes: P14.2, P14.4: the target, and the inverse, of each kind.
func TestGoes(t *testing.T) {
	inAll := 0
	for _, c := range goes {
		m := byName(sheet())
		for name, x := range c.fields {
			m[name] = x
			if x.Kind == api.None {
				delete(m, name)
			}
		}
		want := fromNames(m)
		checkGoes(t, c.name, c.l, sheet(), want, c.inverse)
		if u, code := wantTarget(c.l, sheet()); code != api.OK || !equalOf(u, want) || !equal(wantInverse(c.l, sheet()), c.inverse) {
			t.Errorf("%s: the model tells %v, %d", c.name, u, code)
		}
		// Within others it does the same to what lies there.
		part, wantPart := only(sheet(), c.l.A, c.l.B), only(want, slices.Sorted(maps.Keys(c.fields))...)
		s, u := recordOf([]string{"a", "k"}, of(api.Int), listOf(part)), recordOf([]string{"a", "k"}, of(api.Int), listOf(wantPart))
		if schema.Right(s) && schema.Right(u) {
			checkGoes(t, c.name+", each", each("k", c.l), s, u, each("k", c.inverse))
			inAll++
		}
		s, u = recordOf([]string{"a", "k"}, of(api.Int), part), recordOf([]string{"a", "k"}, of(api.Int), wantPart)
		if schema.Right(s) && schema.Right(u) {
			checkGoes(t, c.name+", in", in("k", c.l), s, u, in("k", c.inverse))
			inAll++
		}
	}
	if inAll < 25 {
		t.Error("within others:", inAll)
	}
}

// only is the record of just those fields, if they are there.
func only(s api.Schema, names ...string) api.Schema {
	m := byName(s)
	maps.DeleteFunc(m, func(name string, _ api.Schema) bool { return !slices.Contains(names, name) })
	return fromNames(m)
}

// goesNot are right lenses that don't go on the sheet.
var goesNot = map[string]api.Lens{
	"Rename of none":               rename("b", "d"),
	"Rename of a name within":      rename("n", "d"),
	"Rename to one that is there":  rename("a", "c"),
	"Rename of none to one":        rename("b", "a"),
	"Add of one that is there":     add("a", of(api.Int), num(1)),
	"Remove of none":               remove("b", of(api.Int), num(1)),
	"Remove of another type":       remove("a", of(api.Bool), truth(1)),
	"Remove of other words":        remove("c", of(api.Enum, "blue", "red"), word("red")),
	"Remove of fewer words":        remove("c", of(api.Enum, "red"), word("red")),
	"Remove of another record":     remove("r", recordOf([]string{"l"}, listOf(pair())), fields([]string{"l"}, list(nil))),
	"Remove of what a list holds":  remove("l", of(api.Int), num(1)),
	"Hoist from none":              hoist("b", "n"),
	"Hoist of none":                hoist("r", "x"),
	"Hoist of one beside":          hoist("r", "a"),
	"Hoist of one that is beside":  hoist("r", "l"),
	"Hoist from a number":          hoist("a", "n"),
	"Hoist from a list of records": hoist("m", "x"),
	"Plunge of none":               plunge("r", "b"),
	"Plunge of one within":         plunge("r", "n"),
	"Plunge of one that is within": plunge("r", "l"),
	"Plunge into none":             plunge("b", "a"),
	"Plunge into a number":         plunge("a", "c"),
	"Plunge into a list":           plunge("m", "a"),
	"Plunge into a word":           plunge("c", "a"),
	"Wrap of none":                 wrap("b"),
	"Wrap of a name within":        wrap("n"),
	"Head of none":                 head("b"),
	"Head of a number":             head("a"),
	"Head of a word":               head("c"),
	"Head of a record":             head("r"),
	"Convert of none":              convert("b", of(api.Int), num(1), num(1)),
	"Convert of a list":            convert("l", of(api.Int), num(1), num(1)),
	"Convert of a record":          convert("r", of(api.Int), num(1), num(1)),
	"Convert, another Back":        convert("a", of(api.Int), num(1), truth(1)),
	"Convert, a Back of no word":   convert("c", of(api.Int), num(1), word("green")),
	"Convert, a Back of text":      convert("c", of(api.Int), num(1), text("red")),
	"Convert, another X":           convert("a", of(api.Int), num(1), num(1), api.Pair{X: num(1), Y: num(1)}, api.Pair{X: truth(1), Y: num(1)}),
	"Convert, an X of no word":     convert("c", of(api.Int), num(1), word("red"), api.Pair{X: word("green"), Y: num(1)}, api.Pair{X: word("red"), Y: num(1)}),
	"In of none":                   in("b", add("z", of(api.Int), num(1))),
	"In of a number":               in("a", add("z", of(api.Int), num(1))),
	"In of a list of records":      in("m", add("z", of(api.Int), num(1))),
	"In of one that doesn't go":    in("r", rename("a", "b")),
	"In, to one that is there":     in("r", rename("l", "n")),
	"In of In":                     in("r", in("n", add("z", of(api.Int), num(1)))),
	"Map of none":                  each("b", add("z", of(api.Int), num(1))),
	"Map of a record":              each("r", add("z", of(api.Int), num(1))),
	"Map of a number":              each("a", add("z", of(api.Int), num(1))),
	"Map of numbers":               each("l", add("z", of(api.Int), num(1))),
	"Map of one that doesn't go":   each("m", rename("a", "b")),
	"Map of Map":                   each("m", each("x", wrap("x"))),
}

// TestGoesNot: P14.2: ErrArg of a lens that isn't right, whatever the schema is; ErrLens of one that doesn't go on it.
func TestGoesNot(t *testing.T) {
	wrongOf := []api.Schema{{}, {Kind: 7}, recordOf([]string{"r", "a"}, box(), of(api.Int)), recordOf([]string{"a"}), recordOf([]string{"A", "a"}, of(api.Int), of(api.Int)), recordOf([]string{"a", "b"}, of(api.Int), of(api.Enum))}
	noRecords := []api.Schema{of(api.Int), of(api.Bool), colour, of(api.Text), listOf(sheet()), listOf(of(api.Int))}
	for name, l := range goesNot {
		checkGoesNot(t, name, l, sheet(), api.ErrLens)
		part := only(sheet(), "a", "c", "l", l.A)
		checkGoesNot(t, name+", each", each("k", l), recordOf([]string{"k"}, listOf(part)), api.ErrLens)
		checkGoesNot(t, name+", in", in("k", l), recordOf([]string{"k"}, part), api.ErrLens)
	}
	for name, l := range wrongLenses() {
		for _, s := range slices.Concat(wrongOf, noRecords, []api.Schema{sheet(), recordOf([]string{"a"}, of(api.Int))}) {
			checkGoesNot(t, name, l, s, api.ErrArg)
		}
	}
	for name, l := range rightLenses() {
		for _, s := range slices.Concat(wrongOf, noRecords) {
			checkGoesNot(t, name, l, s, api.ErrLens)
		}
		checkGoesNot(t, name+", a field", in("a", l), recordOf([]string{"a"}, of(api.Int)), map[bool]api.Errno{true: api.ErrLens, false: api.ErrArg}[Depth(l) < 5])
	}
}

// eight are as many names.
var eight = strings.Fields("a b c d e f g h")

// full is a record of eight fields, the first of which is this.
func full(first api.Schema) api.Schema {
	s := recordOf(slices.Clone(eight), slices.Repeat([]api.Schema{of(api.Int)}, 8)...)
	s.Parts[0] = first
	return s
}

// TestEdges: P14.2: the target is right: no more than eight fields, no more than five deep.
func TestEdges(t *testing.T) {
	seven := schema.Without(full(of(api.Int)), "h")
	four := listOf(listOf(listOf(of(api.Int))))
	deepest := listOf(four)
	twice := recordOf([]string{"x"}, recordOf([]string{"y"}, recordOf([]string{"z"}, recordOf(nil))))
	for _, c := range []struct {
		name string
		l    api.Lens
		s    api.Schema
		goes bool
	}{
		{"Add, seven", add("h", of(api.Int), num(1)), seven, true},
		{"Add, eight", add("i", of(api.Int), num(1)), full(of(api.Int)), false},
		{"Rename, eight", rename("a", "i"), full(of(api.Int)), true},
		{"Hoist, seven", hoist("a", "x"), schema.Without(full(pair()), "h"), true},
		{"Hoist, eight", hoist("a", "x"), full(pair()), false},
		{"Plunge into seven", plunge("r", "z"), recordOf([]string{"r", "z"}, seven, of(api.Int)), true},
		{"Plunge into eight", plunge("r", "z"), recordOf([]string{"r", "z"}, full(of(api.Int)), of(api.Int)), false},
		{"In, seven", in("r", add("h", of(api.Int), num(1))), recordOf([]string{"r"}, seven), true},
		{"In, eight", in("r", add("i", of(api.Int), num(1))), recordOf([]string{"r"}, full(of(api.Int))), false},
		{"Map, eight", each("r", add("i", of(api.Int), num(1))), recordOf([]string{"r"}, listOf(full(of(api.Int)))), false},
		{"Add of four deep", add("b", four, list(nil)), recordOf(nil), true},
		{"Add of five deep", add("b", deepest, list(nil)), recordOf(nil), false},
		{"Wrap of a record", wrap("a"), recordOf([]string{"a", "b"}, pair(), pair()), true},
		{"Wrap of three deep", wrap("a"), recordOf([]string{"a"}, listOf(listOf(of(api.Int)))), true},
		{"Wrap of four deep", wrap("a"), recordOf([]string{"a"}, four), false},
		{"Head of four deep", head("a"), recordOf([]string{"a"}, four), true},
		{"Plunge of three deep", plunge("a", "b"), recordOf([]string{"a", "b"}, recordOf(nil), listOf(listOf(of(api.Int)))), true},
		{"Plunge of four deep", plunge("a", "b"), recordOf([]string{"a", "b"}, recordOf(nil), four), false},
		{"In of In of In", in("x", in("y", in("z", add("b", of(api.Int), num(1))))), twice, true},
		{"In of In of In, too deep", in("x", in("y", in("z", add("b", listOf(of(api.Int)), list(nil))))), twice, false},
		{"Map, too deep", each("x", wrap("y")), recordOf([]string{"x"}, listOf(recordOf([]string{"y"}, listOf(of(api.Int))))), false},
		{"Map, deepest", each("x", wrap("y")), recordOf([]string{"x"}, listOf(recordOf([]string{"y"}, of(api.Int)))), true},
		{"Add into nothing", add("a", of(api.Int), num(1)), recordOf(nil), true},
		{"Remove of all", remove("a", of(api.Int), num(1)), recordOf([]string{"a"}, of(api.Int)), true},
	} {
		want, code := wantTarget(c.l, c.s)
		if (code == api.OK) != c.goes {
			t.Errorf("%s: the model tells %v, %d", c.name, want, code)
		}
		if c.goes {
			checkGoes(t, c.name, c.l, c.s, want, wantInverse(c.l, c.s))
		} else {
			checkGoesNot(t, c.name, c.l, c.s, api.ErrLens)
		}
	}
}

// TestTargetAny: P14.2, P14.4: any lenses and schemas, as the model says.
func TestTargetAny(t *testing.T) {
	r := chance()
	count, kinds := map[api.Errno]int{}, map[int]int{}
	for range 20000 {
		s := sample.SomeRecord(r.IntN)
		l := sample.SomeLens(r.IntN, s, 5)
		if r.IntN(3) == 0 {
			sample.SpoilLens(r.IntN, &l)
		}
		if r.IntN(9) == 0 {
			s = sample.SomeSchema(r.IntN, 5)
		}
		want, code := wantTarget(l, s)
		count[code]++
		if code != api.OK {
			checkGoesNot(t, "some", l, s, code)
			continue
		}
		kinds[l.Kind]++
		checkGoes(t, "some", l, s, want, wantInverse(l, s))
	}
	for _, code := range []api.Errno{api.OK, api.ErrArg, api.ErrLens} {
		if count[code] < 2000 {
			t.Errorf("%v", count)
		}
	}
	for kind := 1; kind < 11; kind++ {
		if kinds[kind] < 200 {
			t.Errorf("%v", kinds)
		}
	}
}

// TestTargetOwn: P14.2: answers share nothing with what is handed in, nor with other answers, and what is handed in stays as it is.
func TestTargetOwn(t *testing.T) {
	for _, c := range goes {
		l, s := roomy(c.l), roomyOf(sheet())
		beforeLens, before := whole(l), wholeOf(s)
		unchanged := func() bool {
			return reflect.DeepEqual(whole(l), beforeLens) && reflect.DeepEqual(wholeOf(s), before)
		}
		u, _ := Target(l, s)
		i, _ := Inverse(l, s)
		kept, keptLens := plainOf(u), plain(i)
		spoilOf(u)
		scramble(i)
		if !unchanged() {
			t.Errorf("%s: an answer shares with what is handed in, or that has changed", c.name)
		}
		u, _ = Target(l, s)
		i, _ = Inverse(l, s)
		scramble(l)
		spoilOf(s)
		if !equalOf(u, kept) || !equal(i, keptLens) {
			t.Errorf("%s: what is handed in is kept: %v, %v", c.name, u, i)
		}
		// No two lists of one answer are one.
		spoilOf(byName(u)["r"])
		if want := kept; !slices.Equal(u.Words, want.Words) || !equalOf(byName(u)["m"], byName(want)["m"]) {
			t.Errorf("%s: lists of an answer are one: %v", c.name, u)
		}
	}
}

// TestExample: the chapter's own one.
func TestExample(t *testing.T) {
	u, e := Target(rename("a", "b"), recordOf([]string{"a"}, of(api.Int)))
	if e != nil || !equalOf(u, recordOf([]string{"b"}, of(api.Int))) {
		t.Error(u, e)
	}
}
