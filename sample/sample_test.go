package sample

import (
	"maps"
	"math/rand/v2"
	"reflect"
	"slices"
	"strings"
	"testing"

	"dioptre/api"
	"dioptre/lens"
	"dioptre/op"
	"dioptre/pack"
	"dioptre/path"
	"dioptre/schema"
	"dioptre/value"
)

// TestRoom: spare room is laid, told and scrambled; the value itself stays the same one, and shares nothing.
func TestRoom(t *testing.T) {
	v := Record([]string{"a", "b"}, Nums(3, 1), InLists(Text("x"), 2))
	kept := Plain(v)
	w := Roomy(v)
	if !reflect.DeepEqual(Plain(w), kept) || reflect.DeepEqual(Whole(w), kept) || len(Whole(w).Names) < 4 {
		t.Errorf("Roomy, Whole: %v, %v", w, Whole(w))
	}
	before := Whole(w)
	Scramble(w)
	if reflect.DeepEqual(Whole(w), before) || !reflect.DeepEqual(Plain(v), kept) {
		t.Errorf("Scramble: %v, %v", w, v)
	}
	p := Steps("a", 3, uint64(4), api.Step{Name: "b", Id: 5})
	q := RoomyPath(p)
	if !slices.Equal(p, []api.Step{{Name: "a"}, {Id: 3}, {Id: 4}, {Name: "b", Id: 5}}) || !slices.Equal(p, q) || cap(q) < 6 {
		t.Errorf("Steps, RoomyPath: %v, %v", p, q)
	}
	ScramblePath(q)
	if slices.Equal(p, q) || slices.Contains(q[:6], api.Step{Id: 99}) || !slices.Equal(p, Steps("a", 3, 4, api.Step{Name: "b", Id: 5})) {
		t.Errorf("ScramblePath: %v, %v", p, q[:6])
	}
}

// TestSome: schemas are right, and values fit them; each kind, and lists without and with as many elements as may be, come.
func TestSome(t *testing.T) {
	r := rand.New(rand.NewPCG(1, 2026))
	kinds, sizes := map[int]int{}, map[int]int{}
	for range 2000 {
		s := SomeSchema(r.IntN, 1+r.IntN(5))
		v := SomeFit(r.IntN, s)
		if !schema.Right(s) || !schema.Fits(v, s) {
			t.Fatalf("%v, %v", s, v)
		}
		kinds[v.Kind]++
		if v.Kind == api.List {
			sizes[len(v.Ids)]++
		}
	}
	if len(kinds) != 6 || sizes[0] < 10 || sizes[api.MaxItems] < 10 {
		t.Errorf("%v %v", kinds, sizes)
	}
}

// TestNear: a value near to one that fits a schema fits it, too; it is the same one, or another one, and each way of its lists to be others comes.
func TestNear(t *testing.T) {
	r := rand.New(rand.NewPCG(4, 2026))
	alike, other, ways := 0, 0, map[string]int{}
	for range 2000 {
		s := ListOf(SomeSchema(r.IntN, 1+r.IntN(4)))
		v := SomeFit(r.IntN, s)
		kept := Plain(v)
		w := Near(r.IntN, s, v)
		if !schema.Fits(w, s) || !reflect.DeepEqual(Plain(v), kept) {
			t.Fatalf("%v, near to %v: %v", s, v, w)
		}
		if value.Same(v, w) {
			alike++
			continue
		}
		other++
		if slices.Equal(v.Ids, w.Ids) {
			ways["elements"]++
		} else if n := len(v.Ids) - 1; n > 0 && len(w.Ids) == n+1 && w.Ids[0] == v.Ids[n] && w.Ids[n] == v.Ids[0] {
			ways["turned"]++
		} else if n > 0 && slices.Equal(w.Ids, v.Ids[:n]) {
			ways["shorter"]++
		} else if len(w.Ids) == n+1 && same(List(nil, v.Parts...), List(nil, w.Parts...)) {
			ways["number"]++
		}
	}
	if min(alike, other, ways["elements"], ways["turned"], ways["shorter"], ways["number"]) < 40 {
		t.Errorf("%d, %d, %v", alike, other, ways)
	}
}

// TestRecords: records' schemas come, with many fields and with none.
func TestRecords(t *testing.T) {
	r := rand.New(rand.NewPCG(5, 2026))
	sizes := map[int]int{}
	for range 500 {
		s := SomeRecord(r.IntN)
		if s.Kind != api.Record || !schema.Right(s) {
			t.Fatal(s)
		}
		sizes[len(s.Words)]++
	}
	if len(sizes) != 5 {
		t.Errorf("%v", sizes)
	}
}

// TestApart: parts that share a list, with each other or with the value, wherever these lie, and that share none.
func TestApart(t *testing.T) {
	sharing := func(names []string, ids []uint64, parts []api.Value) map[string]api.Value {
		return map[string]api.Value{
			"parts":              List(nil, List(nil, parts...), List(nil, parts...)),
			"parts, deep within": List(nil, List(nil, List(nil, parts...)), List(nil, Num(1), List(nil, parts...))),
			"numbers":            List(nil, List(ids), List(ids)),
			"numbers, deep":      List(nil, Num(1), List(nil, List(ids), List(ids)), Num(1)),
			"numbers, later":     List(nil, List(ids), Num(1), List(ids)),
			"names":              List(nil, Record(names), Record(names)),
			"numbers, with all":  List(ids, List(ids)),
			"names, with all":    Record(names, Num(1), Record(names)),
			"names, deep within": Record(names, List(nil, Record(names))),
			"spare room":         List(nil, List(nil, parts[:1]...), List(nil, parts[1:]...)),
		}
	}
	fresh := func() map[string]api.Value {
		return sharing([]string{"a", "b"}, []uint64{3, 4}, []api.Value{Num(1), Nums(2)})
	}
	for name := range fresh() {
		if Apart(fresh()[name]) {
			t.Errorf("that share: %s", name)
		}
		if !Apart(Plain(fresh()[name])) {
			t.Errorf("that share no more: %s", name)
		}
	}
	for _, v := range []api.Value{Num(1), List(nil), List([]uint64{1, 2}, Nums(1, 2), Nums(1, 2)), Record([]string{"a"}, Record([]string{"a"}, Num(1)))} {
		if !Apart(v) {
			t.Errorf("that share nothing: %v", v)
		}
	}
	v := List(nil, Nums(1))
	if Apart(v); len(v.Parts) != 1 || v.Parts[0].N != 77 {
		t.Errorf("it isn't overwritten: %v", v)
	}
}

// TestSchemaRoom: as TestRoom, of schemas.
func TestSchemaRoom(t *testing.T) {
	s := RecordOf([]string{"a", "b"}, Of(api.Enum, "x"), ListOf(ListOf(Of(api.Int))))
	kept := PlainSchema(s)
	u := RoomySchema(s)
	if !reflect.DeepEqual(PlainSchema(u), kept) || reflect.DeepEqual(WholeSchema(u), kept) || len(WholeSchema(u).Words) < 4 {
		t.Errorf("RoomySchema, WholeSchema: %v, %v", u, WholeSchema(u))
	}
	before := WholeSchema(u)
	ScrambleSchema(u)
	if reflect.DeepEqual(WholeSchema(u), before) || !reflect.DeepEqual(PlainSchema(s), kept) {
		t.Errorf("ScrambleSchema: %v, %v", u, s)
	}
}

// TestLensRoom: as TestRoom, of lenses: each of their lists has spare room, and is scrambled.
func TestLensRoom(t *testing.T) {
	inner := api.Lens{Kind: api.Convert, A: "b", Type: Of(api.Enum, "x"), Base: Word("x"), Back: Nums(1), Pairs: []api.Pair{{X: Nums(2), Y: Nums(3)}}}
	l := api.Lens{Kind: api.In, A: "a", Inner: []api.Lens{inner}}
	kept := PlainLens(l)
	m := RoomyLens(l)
	all := WholeLens(m)
	if !reflect.DeepEqual(PlainLens(m), kept) || len(all.Inner) < 2 || len(all.Pairs) < 1 || len(all.Inner[0].Pairs) < 2 || len(all.Inner[0].Pairs[0].Y.Ids) < 3 || len(all.Inner[0].Back.Parts) < 3 || len(all.Inner[0].Type.Words) < 3 {
		t.Errorf("RoomyLens, WholeLens: %v, %v", m, all)
	}
	x := m.Inner[0]
	ScrambleLens(m)
	if m.Inner[0].A != "scrambled" || x.Type.Words[0] != "scrambled" || x.Pairs[0].X.N != 77 || x.Back.Parts[0].N != 77 || !reflect.DeepEqual(PlainLens(l), kept) {
		t.Errorf("ScrambleLens: %v, %v", m, l)
	}
	if m.Pairs[:1][0].Y.N != 77 || m.Inner[:2][1].A != "scrambled" {
		t.Errorf("ScrambleLens, spare room: %v", WholeLens(m))
	}
}

// TestLenses: each maker makes a right lens of its kind; spoilt, most aren't right, and each kind of fault comes.
func TestLenses(t *testing.T) {
	r := rand.New(rand.NewPCG(3, 2026))
	all := []api.Lens{Rename("a", "b"), Add("a", Of(api.Int), Num(1)), Remove("a", Of(api.Int), Num(1)), Hoist("a", "b"), Plunge("a", "b"), Wrap("a"), Head("a"), Convert("a", Of(api.Int), Num(1), Num(2), api.Pair{X: Num(3), Y: Num(4)}), In("a", Wrap("b")), Map("a", Wrap("b"))}
	for i, l := range all {
		if l.Kind != i+1 || l.A != "a" || !lens.Right(l) || !lens.Right(Within(l, 5-lens.Depth(l))) || lens.Depth(Within(l, 7)) != 7+lens.Depth(l) {
			t.Errorf("%v, within others: %v", l, Within(l, 2))
		}
		wrong := 0
		for range 300 {
			x := PlainLens(l)
			SpoilLens(r.IntN, &x)
			if !lens.Right(x) {
				wrong++
			}
		}
		if wrong < 150 || wrong == 300 {
			t.Errorf("%v: spoilt, %d of 300 aren't right", l, wrong)
		}
	}
}

// TestSomeLens: lenses are right, mostly go on the schema, and are of each kind.
func TestSomeLens(t *testing.T) {
	r := rand.New(rand.NewPCG(2, 2026))
	kinds, fit, all := map[int]int{}, 0, 0
	for range 3000 {
		s := SomeSchema(r.IntN, 2+r.IntN(4))
		if s.Kind != api.Record {
			continue
		}
		l := SomeLens(r.IntN, s, 1+r.IntN(5))
		if !lens.Right(l) {
			t.Fatalf("%v isn't right", l)
		}
		all++
		if _, e := lens.Target(l, s); e == nil {
			fit++
			kinds[l.Kind]++
		}
	}
	if len(kinds) != 10 || fit < all*8/10 {
		t.Errorf("%v, %d of %d", kinds, fit, all)
	}
	if l := SomeLens(r.IntN, RecordOf(nil), 5); l.Kind != api.Add || !lens.Right(l) {
		t.Error("of an empty record:", l)
	}
}

// TestOpRoom: as TestRoom, of operations.
func TestOpRoom(t *testing.T) {
	o := Insert(Steps("a", 3), 4, 5, Record([]string{"b"}, Nums(1)))
	kept := PlainOp(o)
	m := RoomyOp(o)
	all := WholeOp(m)
	if !reflect.DeepEqual(PlainOp(m), kept) || len(all.Path) < 4 || len(all.Value.Names) < 3 || len(all.Value.Parts) < 3 || !reflect.DeepEqual(PlainOp(api.Op{Path: []api.Step{}}), api.Op{}) {
		t.Errorf("PlainOp, RoomyOp, WholeOp: %v, %v", m, all)
	}
	copied := PlainOp(m)
	ScrambleOp(m)
	if m.Path[:3][2].Name != "scrambled" || m.Path[0].Name != "scrambled" || m.Value.Names[0] != "scrambled" || m.Value.Parts[0].N != 77 {
		t.Errorf("ScrambleOp: %v", m)
	}
	if !reflect.DeepEqual(PlainOp(o), kept) || !reflect.DeepEqual(copied, kept) || all.Path[0].Name != "a" {
		t.Errorf("ScrambleOp has changed another one: %v, %v, %v", o, copied, all)
	}
}

// TestOps: each maker makes a right operation of its kind; spoilt, most aren't right, and each field comes to be another one.
func TestOps(t *testing.T) {
	r := rand.New(rand.NewPCG(6, 2026))
	p := Steps("a", 3)
	for i, o := range []api.Op{Set(p, Num(1)), Insert(p, 4, 5, Num(1)), Delete(p, 4), Move(p, 4, 5)} {
		if o.Kind != i+1 || len(o.Path) != 2 || !op.Right(o) || o.Kind > api.Set && o.Id != 4 || (o.Kind == api.Insert || o.Kind == api.Move) && o.After != 5 {
			t.Errorf("%v", o)
		}
		wrong, others := 0, map[string]bool{}
		for range 300 {
			x := o
			SpoilOp(r.IntN, &x)
			if !op.Right(x) {
				wrong++
			}
			for what, is := range map[string]bool{
				"kind": x.Kind != o.Kind, "path": len(x.Path) == 3, "id": x.Id != o.Id, "after": x.After != o.After, "itself": x.After == o.Id, "value": !value.Same(x.Value, o.Value),
			} {
				others[what] = others[what] || is
			}
		}
		if wrong < 150 || wrong == 300 || len(others) != 6 || slices.Contains(slices.Collect(maps.Values(others)), false) {
			t.Errorf("%v: spoilt, %d of 300 aren't right; %v", o, wrong, others)
		}
		if !slices.Equal(p, Steps("a", 3)) {
			t.Fatal("SpoilOp has changed a path that isn't its own")
		}
	}
}

// TestPaths: paths, types and lists in values are those that the layers tell; paths share nothing.
func TestPaths(t *testing.T) {
	r := rand.New(rand.NewPCG(8, 2026))
	for range 500 {
		s := SomeSchema(r.IntN, 1+r.IntN(5))
		v := SomeFit(r.IntN, s)
		all := paths(v)
		if !slices.EqualFunc(all, path.All(v), slices.Equal) {
			t.Fatalf("%v: %v", v, all)
		}
		for _, p := range append(all, Steps("a"), Steps(3), Steps("x", "x"), Steps("b", 3, "b")) {
			x, _ := path.Get(v, p...)
			u, _ := path.Type(s, p...)
			if !slices.Equal(idsAt(v, p), x.Ids) || !schema.Same(typeAt(s, p), u) {
				t.Fatalf("%v, %v at %v: %v, %v", s, v, p, typeAt(s, p), idsAt(v, p))
			}
			ScramblePath(p)
		}
		for _, p := range all {
			if slices.ContainsFunc(p, func(x api.Step) bool { return x.Name != "scrambled" }) {
				t.Fatal(all)
			}
		}
		if again := paths(v); !slices.EqualFunc(again, path.All(v), slices.Equal) {
			t.Fatal(again)
		}
	}
}

// TestSomeOp: operations are right, many fit the schema, and are of each kind; each kind makes something of documents, and goes where nothing stands.
func TestSomeOp(t *testing.T) {
	r := rand.New(rand.NewPCG(7, 2026))
	fit, other, nothing, after, nowhere := map[int]int{}, map[int]int{}, map[int]int{}, map[bool]int{}, map[int]int{}
	for range 5000 {
		s := SomeSchema(r.IntN, 1+r.IntN(5))
		v := SomeFit(r.IntN, s)
		kept := Plain(v)
		o := SomeOp(r.IntN, s, v)
		if o.Kind == api.Insert || o.Kind == api.Move {
			after[o.After > 0]++
		}
		if _, ok := path.Get(v, o.Path...); !ok {
			nowhere[min(len(o.Path), 3)]++
		}
		if !op.Right(o) || !reflect.DeepEqual(Plain(v), kept) {
			t.Fatalf("%v, of %v", o, v)
		}
		if op.Check(o, s) != nil {
			continue
		}
		fit[o.Kind]++
		if value.Same(op.Apply(s, v, o), v) {
			nothing[o.Kind]++
		} else {
			other[o.Kind]++
		}
	}
	for kind := api.Set; kind <= api.Move; kind++ {
		if fit[kind] < 250 || other[kind] < 60 || nothing[kind] < 50 {
			t.Errorf("kind %d: %d fit, %d make something, %d nothing", kind, fit[kind], other[kind], nothing[kind])
		}
	}
	if min(after[true], after[false]) < 300 || min(nowhere[1], nowhere[2], nowhere[3]) < 50 {
		t.Errorf("behind another one, ahead of all: %v; where nothing stands: %v", after, nowhere)
	}
	// The value needn't fit the schema.
	for range 500 {
		if o := SomeOp(r.IntN, SomeSchema(r.IntN, 5), SomeFit(r.IntN, SomeSchema(r.IntN, 5))); !op.Right(o) {
			t.Fatal(o)
		}
	}
}

// TestLarge: it is right, and has so many bytes.
func TestLarge(t *testing.T) {
	for n := 1000; n <= 9000; n++ {
		var w pack.Writer
		v := Large(n)
		for _, x := range v.Parts {
			b, _ := value.Encode(x)
			w.Raw(b...)
		}
		if b, e := value.Encode(v); !value.Right(v) || len(w.Out())+len(v.Ids)+2 != n || n <= api.MaxBytes && (e != nil || len(b) != n) {
			t.Fatalf("%d: %d, %v", n, len(w.Out()), e)
		}
	}
}

// TestLargeSchema: it is a record's, right but that it may have too many bytes, and has so many.
func TestLargeSchema(t *testing.T) {
	for n := 4089; n <= 4100; n++ {
		s := LargeSchema(n)
		b, e := schema.Encode(s)
		if s.Kind != api.Record || !schema.Right(s) || (e == nil) != (n <= 4096) || e == nil && len(b) != n {
			t.Errorf("%d: %d bytes, %v", n, len(b), e)
		}
	}
}

// TestHashes: names rise, at their first byte or at their last one; of any ones many are alike.
func TestHashes(t *testing.T) {
	if h := Hash(3, 4); h[0] != 3 || h[31] != 4 || h[1] != 0 || h[30] != 0 {
		t.Errorf("Hash: %x", h)
	}
	l := Hashes()
	first, last := 0, 0
	for i := range l[1:] {
		if l[i] == l[i+1] || strings.Compare(string(l[i][:]), string(l[i+1][:])) > 0 {
			t.Errorf("Hashes: %x", l)
		}
		if l[i][0] == l[i+1][0] {
			last++
		} else {
			first++
		}
	}
	r := rand.New(rand.NewPCG(6, 2026))
	some := map[api.Hash]int{}
	for range 500 {
		some[SomeHash(r.IntN)]++
	}
	if min(first, last) < 2 || len(some) != 21 || some[api.Hash{}] < 40 {
		t.Errorf("%d, %d, %d, %v", first, last, len(some), some[api.Hash{}])
	}
}

// TestEntryRoom: as TestRoom, of entries and of names.
func TestEntryRoom(t *testing.T) {
	e := api.Entry{Parents: Hashes()[1:3], Op: Insert(Steps("a", 3), 4, 5, Nums(1)), Lens: In("a", Add("b", ListOf(Of(api.Int)), Nums(2)))}
	kept := PlainEntry(e)
	m := RoomyEntry(e)
	all := WholeEntry(m)
	if !reflect.DeepEqual(PlainEntry(m), kept) || len(all.Parents) < 4 || len(all.Op.Path) < 4 || len(all.Lens.Inner) < 2 || !reflect.DeepEqual(PlainEntry(api.Entry{Parents: []api.Hash{}}), api.Entry{}) {
		t.Errorf("PlainEntry, RoomyEntry, WholeEntry: %v, %v", m, all)
	}
	ScrambleEntry(m)
	scrambled := WholeEntry(m)
	if !reflect.DeepEqual(PlainEntry(e), kept) || slices.ContainsFunc(scrambled.Parents, func(h api.Hash) bool { return h != Hash(77, 77) }) {
		t.Errorf("ScrambleEntry: %v, %v", e, scrambled)
	}
	if reflect.DeepEqual(scrambled.Op, all.Op) || reflect.DeepEqual(scrambled.Lens, all.Lens) {
		t.Errorf("ScrambleEntry leaves something: %v", scrambled)
	}
}
