package lens

import (
	"reflect"
	"slices"
	"strings"
	"testing"

	"dioptre/api"
	"dioptre/sample"
	"dioptre/schema"
	"dioptre/trial"
	"dioptre/value"
)

// colour is an enum's schema.
var colour = of(api.Enum, "red", "blue")

// pairsOf are as many pairs of numbers and bools.
func pairsOf(n int) []api.Pair {
	var l []api.Pair
	for i := range n {
		l = append(l, api.Pair{X: num(i / 2), Y: truth(i % 2)})
	}
	return l
}

// rightLenses are right lenses of each kind.
func rightLenses() map[string]api.Lens {
	twelve := "abcdefghij_9"
	return map[string]api.Lens{
		"Rename":                  rename("a", "b"),
		"Rename, long":            rename(twelve, "_"),
		"Rename, almost the same": rename("a", "aa"),
		"Add":                     add("a", of(api.Int), num(-5)),
		"Add of an enum":          add("a", colour, word("blue")),
		"Add of a record":         add("a", recordOf([]string{"x"}, colour), fields([]string{"x"}, word("red"))),
		"Add of a list":           add("a", listOf(of(api.Int)), nums(3, 1)),
		"Add of an empty list":    add("a", listOf(listOf(of(api.Int))), list(nil)),
		"Add of five deep":        add("a", listOf(listOf(listOf(listOf(of(api.Int))))), inLists(num(1), 4)),
		"Remove":                  remove("a", of(api.Text), text("x")),
		"Remove of a record":      remove(twelve, recordOf(nil), fields(nil)),
		"Hoist":                   hoist("a", "b"),
		"Plunge":                  plunge("b", "a"),
		"Wrap":                    wrap("a"),
		"Wrap, long":              wrap(twelve),
		"Head":                    head("0"),
		"Convert":                 convert("a", of(api.Bool), truth(1), num(7)),
		"Convert to itself":       convert("a", of(api.Int), num(1), num(7)),
		"Convert, a pair":         convert("a", colour, word("red"), num(7), api.Pair{X: num(1), Y: word("blue")}),
		"Convert, eight":          convert("a", of(api.Bool), truth(1), num(7), pairsOf(8)...),
		"Convert, alike":          convert("a", of(api.Bool), truth(1), num(7), slices.Repeat(pairsOf(1), 8)...),
		"Convert, any kinds":      convert("a", of(api.Text), text(""), word("x"), api.Pair{X: num(1), Y: text("a")}, api.Pair{X: truth(0), Y: text("")}, api.Pair{X: text(""), Y: text("b")}, api.Pair{X: word("w"), Y: text("b")}),
		"In":                      in("a", rename("a", "b")),
		"Map":                     each("a", wrap("a")),
		"In of Map":               in("a", each("b", convert("c", of(api.Bool), truth(1), num(7), pairsOf(3)...))),
		"five deep":               within(add("a", of(api.Int), num(1)), 4),
		"lists that aren't nil":   {Kind: api.Wrap, A: "a", Type: api.Schema{Words: []string{}, Parts: []api.Schema{}}, Base: api.Value{Ids: []uint64{}}, Pairs: []api.Pair{}, Inner: []api.Lens{}},
	}
}

// wrongLenses are lenses that aren't right by what is named for them.
func wrongLenses() map[string]api.Lens {
	long := strings.Repeat("a", 13)
	return map[string]api.Lens{
		"zero":                          {},
		"kind 0":                        {A: "a"},
		"kind 0, as a Rename":           {A: "a", B: "b"},
		"kind -1":                       {Kind: -1, A: "a"},
		"kind 11":                       {Kind: 11, A: "a"},
		"kind 11, as a Map":             {Kind: 11, A: "a", Inner: []api.Lens{wrap("a")}},
		"kind 262":                      {Kind: 256 + api.Wrap, A: "a"},
		"Rename of itself":              rename("a", "a"),
		"Rename, no name":               rename("", "b"),
		"Rename, a great name":          rename("A", "b"),
		"Rename, a long name":           rename(long, "b"),
		"Rename to none":                rename("a", ""),
		"Rename to a great name":        rename("a", "B"),
		"Rename to a long name":         rename("a", long),
		"Rename, other bytes":           rename("a", "b\x00"),
		"Hoist of itself":               hoist("a", "a"),
		"Hoist of none":                 hoist("a", ""),
		"Hoist, no name":                hoist("", "b"),
		"Plunge of itself":              plunge("a", "a"),
		"Plunge of none":                plunge("a", ""),
		"Plunge, a great name":          plunge("a b", "c"),
		"Wrap, no name":                 wrap(""),
		"Wrap, a great name":            wrap("A"),
		"Head, no name":                 head(""),
		"Head, a long name":             head(long),
		"Add, no name":                  add("", of(api.Int), num(1)),
		"Add of no type":                add("a", api.Schema{}, num(1)),
		"Add of nothing":                add("a", api.Schema{}, api.Value{}),
		"Add of a wrong type":           add("a", of(api.Enum), word("a")),
		"Add, another kind":             add("a", of(api.Int), truth(1)),
		"Add, another word":             add("a", colour, word("green")),
		"Add, no value":                 add("a", of(api.Int), api.Value{}),
		"Add, a wrong value":            add("a", of(api.Bool), truth(2)),
		"Add, a value of two":           add("a", of(api.Int), api.Value{Kind: api.Int, S: "a"}),
		"Add of six deep":               add("a", listOf(listOf(listOf(listOf(listOf(of(api.Int)))))), list(nil)),
		"Add, a value within":           add("a", listOf(of(api.Int)), list([]uint64{1, 2}, num(1), truth(1))),
		"Remove, no name":               remove("", of(api.Int), num(1)),
		"Remove, another kind":          remove("a", of(api.Int), text("")),
		"Remove of nothing":             remove("a", api.Schema{}, api.Value{}),
		"Convert, no name":              convert("", of(api.Bool), truth(1), num(7)),
		"Convert to a record":           convert("a", recordOf(nil), fields(nil), num(7)),
		"Convert to a list":             convert("a", listOf(of(api.Int)), list(nil), num(7)),
		"Convert to a wrong type":       convert("a", of(api.Enum), word("a"), num(7)),
		"Convert to nothing":            convert("a", api.Schema{}, api.Value{}, num(7)),
		"Convert, another kind":         convert("a", of(api.Bool), num(1), num(7)),
		"Convert, back to none":         convert("a", of(api.Bool), truth(1), api.Value{}),
		"Convert, back to a record":     convert("a", of(api.Bool), truth(1), fields(nil)),
		"Convert, back to a list":       convert("a", of(api.Bool), truth(1), list(nil)),
		"Convert, back to a wrong one":  convert("a", of(api.Bool), truth(1), truth(2)),
		"Convert, back to a wrong word": convert("a", of(api.Bool), truth(1), word("A")),
		"Convert, nine":                 convert("a", of(api.Bool), truth(1), num(7), pairsOf(9)...),
		"Convert, an X of none":         convert("a", of(api.Bool), truth(1), num(7), api.Pair{Y: truth(1)}),
		"Convert, an X of parts":        convert("a", of(api.Bool), truth(1), num(7), api.Pair{X: list(nil), Y: truth(1)}),
		"Convert, a wrong X":            convert("a", of(api.Bool), truth(1), num(7), api.Pair{X: truth(3), Y: truth(1)}),
		"Convert, a Y of none":          convert("a", of(api.Bool), truth(1), num(7), api.Pair{X: num(1)}),
		"Convert, a Y of another kind":  convert("a", of(api.Bool), truth(1), num(7), api.Pair{X: num(1), Y: num(1)}),
		"Convert, a last wrong Y":       convert("a", of(api.Bool), truth(1), num(7), append(pairsOf(7), api.Pair{X: num(1), Y: truth(2)})...),
		"Convert, a last wrong X":       convert("a", colour, word("red"), num(7), api.Pair{X: num(1), Y: word("red")}, api.Pair{X: fields(nil), Y: word("red")}),
		"In, no name":                   in("", wrap("a")),
		"In of none":                    in("a"),
		"In of two":                     in("a", wrap("a"), wrap("b")),
		"In of a wrong one":             in("a", wrap("A")),
		"In of zero":                    in("a", api.Lens{}),
		"In of In of none":              in("a", in("a")),
		"Map, no name":                  each("", wrap("a")),
		"Map of none":                   each("a"),
		"Map of two":                    each("a", wrap("a"), wrap("a")),
		"Map of a wrong one":            each("a", rename("a", "a")),
		"six deep":                      within(wrap("a"), 5),
		"nine deep":                     within(wrap("a"), 8),
	}
}

// extras lay a field each, which is named for some kinds, into a lens that has none there.
var extras = map[string]func(l *api.Lens){
	"B":        func(l *api.Lens) { l.B = "z" },
	"Type":     func(l *api.Lens) { l.Type = of(api.Int) },
	"Type's n": func(l *api.Lens) { l.Type.Words = []string{""} },
	"Type's p": func(l *api.Lens) { l.Type.Parts = []api.Schema{{}} },
	"Base":     func(l *api.Lens) { l.Base = num(0) },
	"Base's N": func(l *api.Lens) { l.Base.N = 1 },
	"Base's S": func(l *api.Lens) { l.Base.S = "a" },
	"Base's n": func(l *api.Lens) { l.Base.Names = []string{""} },
	"Base's i": func(l *api.Lens) { l.Base.Ids = []uint64{0} },
	"Base's p": func(l *api.Lens) { l.Base.Parts = []api.Value{{}} },
	"Back":     func(l *api.Lens) { l.Back = num(0) },
	"Back's N": func(l *api.Lens) { l.Back.N = 1 },
	"Pairs":    func(l *api.Lens) { l.Pairs = []api.Pair{{}} },
	"Inner":    func(l *api.Lens) { l.Inner = []api.Lens{wrap("a")} },
	"zero":     func(l *api.Lens) { l.Inner = []api.Lens{{}} },
}

func checkRight(t *testing.T, name string, l api.Lens, want bool) {
	t.Helper()
	if Right(l) != want || wantRight(l) != want {
		t.Errorf("%s: Right is %v, the model's %v", name, Right(l), wantRight(l))
	}
}

// TestRight: P14.1: of each kind, each field that is named, as it may be and as it may not.
func TestRight(t *testing.T) {
	for name, l := range rightLenses() {
		checkRight(t, name, l, true)
		checkRight(t, name+", within", within(l, 5-Depth(l)), true)
		checkRight(t, name+", six deep", within(l, 6-Depth(l)), false)
	}
	for name, l := range wrongLenses() {
		checkRight(t, name, l, false)
		checkRight(t, name+", within", within(l, 2), false)
	}
}

// has tells whether a field is named for a lens's kind.
func has(l api.Lens, field string) bool {
	named := map[string][]int{
		"B": {api.Rename, api.Hoist, api.Plunge}, "Type": {api.Add, api.Remove, api.Convert}, "Base": {api.Add, api.Remove, api.Convert},
		"Back": {api.Convert}, "Pairs": {api.Convert}, "Inner": {api.In, api.Map}, "zero": {api.In, api.Map},
	}
	return slices.Contains(named[field], l.Kind)
}

// TestRightZero: P14.1: each field that isn't named for a kind is zero.
func TestRightZero(t *testing.T) {
	for name, l := range rightLenses() {
		for extra, lay := range extras {
			x := plain(l)
			lay(&x)
			if has(l, strings.Split(extra, "'")[0]) {
				continue
			}
			checkRight(t, name+" with "+extra, x, false)
			checkRight(t, name+" with "+extra+", within", within(x, 1), false)
		}
	}
}

// TestRightAny: P14.1: any lenses, as the model says.
func TestRightAny(t *testing.T) {
	r := chance()
	count := map[bool]int{}
	for range 20000 {
		l := sample.SomeLens(r.IntN, sample.SomeRecord(r.IntN), 5)
		checkRight(t, "some", l, true)
		for range r.IntN(3) {
			sample.SpoilLens(r.IntN, &l)
		}
		if Right(l) != wantRight(l) {
			t.Fatalf("Right of %v: %v", l, Right(l))
		}
		count[Right(l)]++
	}
	if count[true] < 3000 || count[false] < 3000 {
		t.Errorf("%v", count)
	}
}

// differing are lenses each two of which differ in just a field or two.
func differing() []api.Lens {
	l := api.Lens{Kind: 3, A: "a", B: "b", Type: recordOf([]string{"x"}, of(api.Int)), Base: fields([]string{"x"}, nums(1)), Back: num(2), Pairs: pairsOf(2), Inner: []api.Lens{wrap("a"), head("b")}}
	all := []api.Lens{l, {}}
	for _, change := range []func(l *api.Lens){
		func(l *api.Lens) { l.Kind = -3 },
		func(l *api.Lens) { l.A = "b" },
		func(l *api.Lens) { l.A = "" },
		func(l *api.Lens) { l.B = "a" },
		func(l *api.Lens) { l.A, l.B = l.B, l.A },
		func(l *api.Lens) { l.Type = api.Schema{} },
		func(l *api.Lens) { l.Type.Parts[0] = of(api.Bool) },
		func(l *api.Lens) { l.Type.Words[0] = "y" },
		func(l *api.Lens) { l.Base = api.Value{} },
		func(l *api.Lens) { l.Base.Parts[0].Parts[0].N = 11 },
		func(l *api.Lens) { l.Base.Parts[0].Ids[0] = 11 },
		func(l *api.Lens) { l.Back = num(3) },
		func(l *api.Lens) { l.Back.S = "s" },
		func(l *api.Lens) { l.Back, l.Base = l.Base, l.Back },
		func(l *api.Lens) { l.Pairs = nil },
		func(l *api.Lens) { l.Pairs = l.Pairs[:1] },
		func(l *api.Lens) { l.Pairs = append(l.Pairs, api.Pair{}) },
		func(l *api.Lens) { l.Pairs[0].X = num(5) },
		func(l *api.Lens) { l.Pairs[1].Y = truth(0) },
		func(l *api.Lens) { l.Pairs[1].X, l.Pairs[1].Y = l.Pairs[1].Y, l.Pairs[1].X },
		func(l *api.Lens) { slices.Reverse(l.Pairs) },
		func(l *api.Lens) { l.Inner = nil },
		func(l *api.Lens) { l.Inner = l.Inner[:1] },
		func(l *api.Lens) { l.Inner[0].A = "c" },
		func(l *api.Lens) { l.Inner[1].Back = num(1) },
		func(l *api.Lens) { l.Inner[1].Inner = []api.Lens{{}} },
		func(l *api.Lens) { slices.Reverse(l.Inner) },
	} {
		x := plain(l)
		change(&x)
		all = append(all, x)
	}
	return all
}

// TestSame: P14.1: two lenses are the same, if they are so in all fields.
func TestSame(t *testing.T) {
	all := differing()
	for i, a := range all {
		for k, b := range all {
			if Same(a, b) != (i == k) || Same(in("a", a), in("a", b)) != (i == k) {
				t.Errorf("Same of %v and %v: %v", a, b, i != k)
			}
		}
		if !Same(a, roomy(a)) || !Same(plain(a), a) {
			t.Errorf("%v isn't itself", a)
		}
	}
	empty := api.Lens{Type: api.Schema{Words: []string{}}, Base: api.Value{Parts: []api.Value{}}, Pairs: []api.Pair{}, Inner: []api.Lens{}}
	if !Same(api.Lens{}, empty) || !Same(empty, api.Lens{}) {
		t.Error("lists without elements aren't as none")
	}
}

// TestDepth: P14.1: 1, or one more than the inner ones' greatest, of any lens.
func TestDepth(t *testing.T) {
	for _, c := range []struct {
		l    api.Lens
		want int
	}{
		{api.Lens{}, 1}, {wrap("a"), 1}, {add("a", listOf(of(api.Int)), nums(1)), 1}, {in("a"), 1}, {in("a", wrap("a")), 2}, {each("a", api.Lens{}), 2},
		{in("a", wrap("a"), in("b", wrap("c")), wrap("d")), 3}, {api.Lens{Kind: -1, Inner: []api.Lens{each("a", within(wrap("b"), 3)), in("c")}}, 6},
		{api.Lens{Inner: []api.Lens{}}, 1}, {within(wrap("a"), 40), 41},
	} {
		if Depth(c.l) != c.want {
			t.Errorf("Depth of %v: %d, not %d", c.l, Depth(c.l), c.want)
		}
	}
}

// TestCopy: P14.1: a copy is the same lens, and shares nothing with it.
func TestCopy(t *testing.T) {
	all := differing()
	for _, l := range rightLenses() {
		all = append(all, l, in("a", l, l))
	}
	for _, l := range all {
		l = roomy(l)
		kept, before := plain(l), whole(l)
		c := Copy(l)
		if !equal(c, kept) || !Same(c, l) {
			t.Errorf("Copy of %v: %v", kept, c)
		}
		scramble(c)
		if !reflect.DeepEqual(whole(l), before) {
			t.Errorf("a copy shares with its lens: %v", l)
		}
		c = Copy(l)
		scramble(l)
		if !equal(c, kept) {
			t.Errorf("a copy shares with its lens: %v, not %v", c, kept)
		}
	}
}

// TestAskOwn: what is handed in isn't changed, its spare room neither.
func TestAskOwn(t *testing.T) {
	for name, l := range rightLenses() {
		l, s := roomy(l), roomyOf(recordOf([]string{"a"}, of(api.Int)))
		before, schemaBefore := whole(l), wholeOf(s)
		Right(l)
		Same(l, l)
		Depth(l)
		Target(l, s)
		Inverse(l, s)
		Encode(l)
		if !reflect.DeepEqual(whole(l), before) || !reflect.DeepEqual(wholeOf(s), schemaBefore) {
			t.Errorf("%s: what is handed in has changed: %v %v", name, l, s)
		}
	}
}

// veryDeep is a number of depths.
const veryDeep = 200000

// deeps are lenses that lie very deep, or in which something does.
func deeps() []api.Lens {
	deep, deepOf := inLists(num(1), veryDeep), of(api.Int)
	for range veryDeep {
		deepOf = listOf(deepOf)
	}
	return []api.Lens{
		within(wrap("a"), veryDeep), add("a", deepOf, deep), {Kind: api.Wrap, A: "a", Type: deepOf}, {Kind: api.Wrap, A: "a", Base: deep}, {Kind: api.Wrap, A: "a", Back: deep},
		convert("a", of(api.Int), num(1), deep), convert("a", of(api.Int), num(1), num(1), api.Pair{X: deep, Y: num(1)}), convert("a", of(api.Int), num(1), num(1), api.Pair{X: num(1), Y: deep}),
		convert("a", deepOf, deep, num(1)), in("a", add("b", deepOf, num(1))),
	}
}

// TestDeep: lenses of any depth are looked at.
func TestDeep(t *testing.T) {
	for i, l := range deeps() {
		if Right(l) || !Same(l, Copy(l)) || Same(l, wrap("a")) || Same(wrap("a"), l) {
			t.Error("a deep one is right, or not itself:", i)
		}
		if want := map[int]int{0: veryDeep + 1, 9: 2}[i]; Depth(l) != max(want, 1) {
			t.Error("depth:", i, Depth(l))
		}
		_, e := Target(l, recordOf(nil))
		trial.Code(t, "Target", e, api.ErrArg)
		_, e = Inverse(l, recordOf(nil))
		trial.Code(t, "Inverse", e, api.ErrArg)
		_, e = Encode(l)
		trial.Code(t, "Encode", e, api.ErrArg)
	}
	_, e := Target(head("a"), recordOf([]string{"a"}, deeps()[1].Type))
	trial.Code(t, "Target on a deep one", e, api.ErrLens)
}

// TestRings: of lenses that lie within themselves, and such of values and schemas, calls end.
func TestRings(t *testing.T) {
	ring := in("a", api.Lens{})
	ring.Inner[0] = ring
	ringOf, v := listOf(of(api.Int)), list([]uint64{1}, num(1))
	ringOf.Parts[0], v.Parts[0] = ringOf, v
	for _, l := range []api.Lens{ring, in("a", ring), add("a", ringOf, v), convert("a", of(api.Int), num(1), v), {Kind: api.Wrap, A: "a", Inner: ring.Inner}} {
		if Right(l) || Same(l, l) {
			t.Error("a ring is right, or the same")
		}
		if _, e := Encode(l); e == nil {
			t.Error("a ring has bytes")
		}
		Copy(l)
		Target(l, ringOf)
		Inverse(l, ringOf)
	}
	if Depth(ring) != 0 || !equal(Copy(ring), api.Lens{}) {
		t.Error("Depth, Copy:", Depth(ring))
	}
	if !schema.Same(Copy(add("a", ringOf, v)).Type, api.Schema{}) || !value.Same(Copy(add("a", ringOf, v)).Base, api.Value{}) {
		t.Error("Copy with rings")
	}
}
