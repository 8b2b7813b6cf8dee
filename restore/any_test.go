package restore

import (
	"math"
	"math/rand/v2"
	"reflect"
	"testing"

	"dioptre/api"
	"dioptre/fault"
	"dioptre/lens"
	"dioptre/sample"
	"dioptre/schema"
)

// checkBoth: P15.1, P15.2, P15.4: of any lens, schema and documents all is told as the model says.
func checkBoth(t *testing.T, l api.Lens, s api.Schema, a, b api.Value, seed uint64) {
	t.Helper()
	u, e := lens.Target(l, s)
	if e == nil {
		checkFirst(t, l, s, u)
	}
	code := fault.Code(e)
	if e == nil && (!schema.Fits(a, s) || !schema.Fits(b, u)) {
		code = api.ErrType
	}
	if code == api.OK {
		checkGo(t, l, s, a, b, seed)
	} else {
		checkFails(t, "any", l, s, a, b, code)
	}
	if t.Failed() {
		t.Fatalf("that was %v on %v, the seed being %d, of %s and %s", l, s, seed, text(a), text(b))
	}
}

// checkFirst: of a lens that goes on s to u.
func checkFirst(t *testing.T, l api.Lens, s, u api.Schema) {
	t.Helper()
	if v, e := First(l, s); e != nil || !equal(v, wantFirst(l, s)) || !schema.Fits(v, u) {
		t.Errorf("First: %s %v, not %s", text(v), e, text(wantFirst(l, s)))
	}
}

// checkGo: of a lens that goes, and documents that fit.
func checkGo(t *testing.T, l api.Lens, s api.Schema, a, b api.Value, seed uint64) {
	t.Helper()
	checkRelated(t, "any", l, s, a, b, related(l, s, a, b))
	v, e := Forward(l, s, a, b, seed)
	if want := wantForward(l, s, a, b, seed); e != nil || !equal(v, want) {
		t.Errorf("Forward: %s %v, not %s", text(v), e, text(want))
	}
	w, e := Back(l, s, b, a, seed)
	if want := wantBack(l, s, b, a, seed); e != nil || !equal(w, want) {
		t.Errorf("Back: %s %v, not %s", text(w), e, text(want))
	}
	checkTies(t, "any", l, s, a, v)
	checkTies(t, "any", l, s, w, b)
	if Lossless(l) {
		checkLossless(t, l, s, a, b)
	}
}

// checkLossless: P15.4: one comes back to where one was, whatever was there.
func checkLossless(t *testing.T, l api.Lens, s api.Schema, a, b api.Value) {
	t.Helper()
	first, _ := First(l, s)
	there, _ := Forward(l, s, a, b, 3)
	again, _ := Forward(l, s, a, first, 4)
	back, e := Back(l, s, there, schema.Default(s), 5)
	if e != nil || !equal(back, a) || !equal(there, again) {
		t.Errorf("from %s to %s, or %s, and back to %s %v", text(a), text(there), text(again), text(back), e)
	}
	there, _ = Back(l, s, b, a, 3)
	back, e = Forward(l, s, there, first, 5)
	if e != nil || !equal(back, b) {
		t.Errorf("back from %s to %s, and forward to %s %v", text(b), text(there), text(back), e)
	}
}

// TestAny: any lenses, schemas and documents: far from each other, near to each other, and related.
func TestAny(t *testing.T) {
	r := chance()
	kinds, ties, lossless, changed := map[int]int{}, 0, 0, 0
	for range 3000 {
		s := sample.SomeRecord(r.IntN)
		l := sample.SomeLens(r.IntN, s, 5)
		if r.IntN(20) == 0 {
			sample.SpoilLens(r.IntN, &l)
		}
		seed := []uint64{0, 1, 2, 7, 18, math.MaxUint64}[r.IntN(6)]
		a := sample.SomeFit(r.IntN, s)
		u, e := lens.Target(l, s)
		if e != nil {
			checkBoth(t, l, s, a, api.Value{}, seed)
			continue
		}
		kinds[l.Kind]++
		b := sample.SomeFit(r.IntN, u)
		checkBoth(t, l, s, a, b, seed)
		v := wantForward(l, s, a, b, seed)
		checkBoth(t, l, s, a, v, seed)
		beside := sample.Near(r.IntN, u, v)
		checkBoth(t, l, s, a, beside, seed)
		checkBoth(t, l, s, sample.Near(r.IntN, s, wantBack(l, s, b, a, seed)), b, seed)
		if wantLossless(l) {
			lossless++
		}
		if related(l, s, a, beside) {
			ties++
		}
		if !equal(v, b) && !equal(v, wantForward(l, s, a, wantFirst(l, s), seed)) {
			changed++
		}
	}
	for kind := 1; kind < 11; kind++ {
		if kinds[kind] < 40 {
			t.Errorf("%v", kinds)
		}
	}
	if min(ties, lossless, changed) < 400 {
		t.Error("related, lossless, told by what was there:", ties, lossless, changed)
	}
}

// TestAnyFit: documents that mostly don't fit, of lenses that go.
func TestAnyFit(t *testing.T) {
	r := chance()
	count := map[api.Errno]int{}
	for range 3000 {
		s := sample.SomeRecord(r.IntN)
		l := sample.SomeLens(r.IntN, s, 5)
		u, e := lens.Target(l, s)
		if e != nil {
			continue
		}
		a, b := spoilt(r, sample.SomeFit(r.IntN, s)), spoilt(r, sample.SomeFit(r.IntN, u))
		_, e = Forward(l, s, a, b, 7)
		count[fault.Code(e)]++
		checkBoth(t, l, s, a, b, 7)
	}
	if len(count) != 2 || min(count[api.OK], count[api.ErrType]) < 150 {
		t.Errorf("%v", count)
	}
}

// spoilt is a value in which mostly something is changed, anywhere: often it is another type's then, or isn't right.
func spoilt(r *rand.Rand, v api.Value) api.Value {
	if len(v.Parts) > 0 && r.IntN(4) > 0 {
		i := r.IntN(len(v.Parts))
		v.Parts[i] = spoilt(r, v.Parts[i])
		return v
	}
	switch r.IntN(8) {
	case 0:
		v.N = 3
	case 1:
		v.S = "d"
	case 2:
		v.Ids = append(v.Ids, uint64(r.IntN(3)))
	case 3:
		v.Names = append(v.Names, "z")
	case 4:
		v.Parts = append(v.Parts, num(1))
	case 5:
		v.Kind = r.IntN(8)
	}
	return v
}

// all are all values that fit a small schema: numbers from 0 to 2, texts of at most one byte, lists of at most two elements.
func all(s api.Schema) []api.Value {
	switch s.Kind {
	case api.Bool:
		return []api.Value{truth(0), truth(1)}
	case api.Int:
		return []api.Value{num(0), num(1), num(2)}
	case api.Text:
		return []api.Value{sample.Text(""), sample.Text("a")}
	case api.Enum:
		var l []api.Value
		for _, s := range s.Words {
			l = append(l, word(s))
		}
		return l
	case api.List:
		return allLists(all(s.Parts[0]))
	}
	l := []api.Value{fields(nil)}
	for i, name := range s.Words {
		var longer []api.Value
		for _, v := range l {
			for _, x := range all(s.Parts[i]) {
				longer = append(longer, fields(append(v.Names[:i:i], name), append(v.Parts[:i:i], x)...))
			}
		}
		l = longer
	}
	return l
}

// allLists are all lists of at most two elements, whose numbers are 1 and 2, of these parts.
func allLists(parts []api.Value) []api.Value {
	l := []api.Value{list(nil)}
	for _, x := range parts {
		l = append(l, list([]uint64{1}, x), list([]uint64{2}, x))
		for _, y := range parts {
			l = append(l, list([]uint64{1, 2}, x, y), list([]uint64{2, 1}, x, y))
		}
	}
	return l
}

// TestAll: small lenses, and all documents that fit small schemas, each beside each.
func TestAll(t *testing.T) {
	number, flag := of(api.Int), of(api.Bool)
	one, flagged := recordOf([]string{"a"}, number), recordOf([]string{"a"}, flag)
	for _, c := range []struct {
		l    api.Lens
		s    api.Schema
		most int
	}{
		{rename("a", "c"), recordOf([]string{"a", "b"}, number, number), 81},
		{add("b", colour(), word("blue")), one, 18},
		{remove("b", colour(), word("blue")), recordOf([]string{"a", "b"}, number, colour()), 18},
		{hoist("a", "b"), recordOf([]string{"a"}, recordOf([]string{"a", "b"}, number, flag)), 36},
		{plunge("a", "b"), recordOf([]string{"a", "b"}, one, flag), 36},
		{wrap("a"), one, 75},
		{wrap("a"), recordOf([]string{"a", "b"}, flag, flag), 104},
		{wrap("a"), recordOf([]string{"a"}, colour()), 26},
		{wrap("a"), recordOf([]string{"a"}, listOf(flag)), 4745},
		{headOf("a"), recordOf([]string{"a"}, listOf(colour())), 26},
		{convert("a", flag, truth(1), num(2), api.Pair{X: num(0), Y: truth(0)}), one, 6},
		{convert("a", number, num(1), num(0), api.Pair{X: num(2), Y: num(1)}, api.Pair{X: num(1), Y: num(1)}, api.Pair{X: num(2), Y: num(2)}), one, 9},
		{in("a", wrap("a")), recordOf([]string{"a", "b"}, flagged, flag), 104},
		{each("a", add("b", flag, truth(1))), recordOf([]string{"a"}, listOf(flagged)), 533},
		{each("a", remove("a", flag, truth(1))), recordOf([]string{"a"}, listOf(flagged)), 65},
		{each("a", rename("a", "b")), recordOf([]string{"a"}, listOf(flagged)), 169},
		{each("a", convert("a", colour(), word("blue"), truth(0))), recordOf([]string{"a"}, listOf(flagged)), 169},
		{each("a", convert("a", flag, truth(1), word("red"), api.Pair{X: word("blue"), Y: truth(0)})), recordOf([]string{"a"}, listOf(recordOf([]string{"a"}, colour()))), 169},
		{each("a", headOf("a")), recordOf([]string{"a"}, listOf(recordOf([]string{"a"}, listOf(recordOf(nil))))), 305},
	} {
		u, e := lens.Target(c.l, c.s)
		if e != nil {
			t.Fatal(c.l, e)
		}
		count := 0
		for _, a := range all(c.s) {
			for _, b := range all(u) {
				checkBoth(t, c.l, c.s, a, b, 2)
				count++
			}
		}
		if count != c.most {
			t.Errorf("%v: %d documents beside each other, not %d", c.l, count, c.most)
		}
	}
}

// TestOwn: what is handed in isn't changed, its spare room neither, and isn't kept; what is told is new, and no two parts of it share.
func TestOwn(t *testing.T) {
	for _, c := range rows() {
		l, s, a, b := roomyLens(c.l), roomyOf(c.s), roomy(doc(c.a)), roomy(doc(c.b))
		beforeLens, beforeOf, beforeA, beforeB := wholeLens(l), wholeOf(s), whole(a), whole(b)
		unchanged := func() bool {
			return reflect.DeepEqual(wholeLens(l), beforeLens) && reflect.DeepEqual(wholeOf(s), beforeOf) && reflect.DeepEqual(whole(a), beforeA) && reflect.DeepEqual(whole(b), beforeB)
		}
		tell := func() []api.Value {
			v, _ := Forward(l, s, a, b, c.seed)
			w, _ := Back(l, s, b, a, c.seed)
			first, _ := First(l, s)
			return []api.Value{v, w, first}
		}
		want := []string{c.to, c.backTo, text(wantFirst(c.l, c.s))}
		Related(l, s, a, b)
		Lossless(l)
		for _, v := range tell() {
			if !sample.Apart(v) {
				t.Errorf("%s: two parts of an answer share", c.name)
			}
		}
		if !unchanged() {
			t.Errorf("%s: an answer shares with what is handed in, or that has changed", c.name)
		}
		kept := tell()
		scrambleLens(l)
		spoilOf(s)
		scramble(a)
		scramble(b)
		for i, v := range kept {
			if text(v) != want[i] {
				t.Errorf("%s: what is handed in is kept: %s, not %s", c.name, text(v), want[i])
			}
		}
	}
}

// TestOwnBase: elements that come by the first one of an inner Add share nothing with each other, nor with the Base.
func TestOwnBase(t *testing.T) {
	base := roomy(doc("[1:1,2:2]"))
	l := each("l", add("n", listOf(of(api.Int)), base))
	s := recordOf([]string{"l"}, listOf(recordOf(nil)))
	v, e := Forward(l, s, doc("{l=[1:{},2:{},3:{}]}"), doc("{l=[]}"), 1)
	if e != nil || text(v) != "{l=[1:{n=[1:1,2:2]},2:{n=[1:1,2:2]},3:{n=[1:1,2:2]}]}" {
		t.Fatal(text(v), e)
	}
	before := whole(base)
	if !sample.Apart(v) || !reflect.DeepEqual(whole(base), before) {
		t.Error("two elements share, or the Base has changed:", base)
	}
}

// TestLarge: documents as large as may be.
func TestLarge(t *testing.T) {
	x := of(api.Int)
	for range 3 {
		x = listOf(x)
	}
	names := []string{"a", "b", "c", "d", "e", "f", "g", "h"}
	s := recordOf(names, x, x, x, x, x, x, x, x)
	v := num(3)
	for range 3 {
		w := list(nil)
		for i := range uint64(12) {
			w.Ids, w.Parts = append(w.Ids, i+1), append(w.Parts, v)
		}
		v = w
	}
	a := fields(names, v, v, v, v, v, v, v, v)
	l := rename("h", "_")
	u, _ := lens.Target(l, s)
	b := schema.Default(u)
	checkBoth(t, l, s, a, b, 1)
	there, _ := Forward(l, s, a, b, 1)
	if !Related(l, s, a, there) || Related(l, s, a, b) {
		t.Error("Related of large documents")
	}
}
