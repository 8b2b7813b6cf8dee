package value

import (
	"math"
	"slices"
	"testing"

	"dioptre/api"
)

// abc is a record with room between, ahead of and behind its names.
func abc() api.Value { return record([]string{"b", "d", "f"}, num(1), truth(1), text("x")) }

// noRecords are no records that have a part for each name.
func noRecords() []api.Value {
	return []api.Value{
		{}, num(1), text("a"), word("a"), truth(1), list([]uint64{1}, num(1)),
		record([]string{"a"}), record([]string{"a", "b"}, num(1)), record([]string{"b", "d", "f"}, num(1), num(2)),
		{Names: []string{"a"}, Parts: []api.Value{num(1)}},
		{Kind: api.List, Names: []string{"a"}, Parts: []api.Value{num(1)}},
		{Kind: api.Enum, S: "a", Names: []string{"a"}, Parts: []api.Value{num(1)}},
		{Kind: 7, Names: []string{"a"}, Parts: []api.Value{num(1)}},
		{Kind: -1, Names: []string{"a"}, Parts: []api.Value{num(1)}},
	}
}

// TestField: P8.3: the part of the first field of that name, of a record that has no fewer parts than names.
func TestField(t *testing.T) {
	check := func(v api.Value, name string, want api.Value, ok bool) {
		t.Helper()
		if x, found := Field(v, name); !equal(x, want) || found != ok {
			t.Errorf("Field(%v, %q): %v %v", v, name, x, found)
		}
	}
	check(abc(), "b", num(1), true)
	check(abc(), "d", truth(1), true)
	check(abc(), "f", text("x"), true)
	for _, name := range []string{"", "a", "c", "e", "g", "B", "bb", "b ", "abcdefghijklmnop"} {
		check(abc(), name, api.Value{}, false)
	}
	check(record([]string{"a", "a"}, num(1), num(2)), "a", num(1), true)
	check(record([]string{"z", "a", "z"}, num(1), num(2), num(3)), "z", num(1), true)
	check(record([]string{"a"}, num(1), num(2)), "a", num(1), true)
	check(record([]string{"", "A b"}, num(1), num(2)), "", num(1), true)
	check(record([]string{"", "A b"}, num(1), num(2)), "A b", num(2), true)
	check(record([]string{"a"}, truth(7)), "a", truth(7), true)
	check(record([]string{"a"}, api.Value{}), "a", api.Value{}, true)
	check(record(nil), "a", api.Value{}, false)
	check(record(nil, num(1)), "", api.Value{}, false)
	for _, v := range noRecords() {
		for _, name := range []string{"a", "b", "d", ""} {
			check(v, name, api.Value{}, false)
		}
	}
	checkOwn(t, "Field", record([]string{"a"}, inLists(record([]string{"x"}, num(1)), 2)), num(1), func(v, _ api.Value) api.Value {
		x, _ := Field(v, "a")
		return x
	})
}

// wantWith is the record with the field, by the chapter's words.
func wantWith(v api.Value, name string, x api.Value) api.Value {
	v = plain(v)
	if v.Kind != api.Record || len(v.Parts) < len(v.Names) {
		return v
	}
	for i := range v.Names {
		if v.Names[i] == name {
			v.Parts[i] = x
			return v
		}
	}
	at := 0
	for at < len(v.Names) && v.Names[at] < name {
		at++
	}
	v.Names = slices.Concat(v.Names[:at], []string{name}, v.Names[at:])
	v.Parts = slices.Concat(v.Parts[:at], []api.Value{x}, v.Parts[at:])
	return v
}

// wantWithout is the record without the field.
func wantWithout(v api.Value, name string) api.Value {
	v = plain(v)
	if v.Kind != api.Record || len(v.Parts) < len(v.Names) {
		return v
	}
	for i := range v.Names {
		if v.Names[i] == name {
			v.Names = slices.Concat(v.Names[:i], v.Names[i+1:])
			v.Parts = slices.Concat(v.Parts[:i], v.Parts[i+1:])
			return v
		}
	}
	return v
}

// checkWith: With and Without say this, and so does the model.
func checkWith(t *testing.T, v api.Value, name string, x, with, without api.Value) {
	t.Helper()
	if got := With(v, name, x); !equal(got, with) || !equal(wantWith(v, name, x), with) {
		t.Errorf("With(%v, %q, %v): %v, the model: %v", v, name, x, got, wantWith(v, name, x))
	}
	if got := Without(v, name); !equal(got, without) || !equal(wantWithout(v, name), without) {
		t.Errorf("Without(%v, %q): %v, the model: %v", v, name, got, wantWithout(v, name))
	}
	checkOwn(t, "With", v, x, func(v, x api.Value) api.Value { return With(v, name, x) })
	checkOwn(t, "Without", v, x, func(v, _ api.Value) api.Value { return Without(v, name) })
}

// TestWith: P8.3: a name ahead of all, between, behind all, and there already.
func TestWith(t *testing.T) {
	x := list([]uint64{5}, record([]string{"y"}, num(9)))
	checkWith(t, abc(), "a", x, record([]string{"a", "b", "d", "f"}, x, num(1), truth(1), text("x")), abc())
	checkWith(t, abc(), "", x, record([]string{"", "b", "d", "f"}, x, num(1), truth(1), text("x")), abc())
	checkWith(t, abc(), "c", x, record([]string{"b", "c", "d", "f"}, num(1), x, truth(1), text("x")), abc())
	checkWith(t, abc(), "bb", x, record([]string{"b", "bb", "d", "f"}, num(1), x, truth(1), text("x")), abc())
	checkWith(t, abc(), "e", x, record([]string{"b", "d", "e", "f"}, num(1), truth(1), x, text("x")), abc())
	checkWith(t, abc(), "g", x, record([]string{"b", "d", "f", "g"}, num(1), truth(1), text("x"), x), abc())
	checkWith(t, abc(), "b", x, record([]string{"b", "d", "f"}, x, truth(1), text("x")), record([]string{"d", "f"}, truth(1), text("x")))
	checkWith(t, abc(), "d", x, record([]string{"b", "d", "f"}, num(1), x, text("x")), record([]string{"b", "f"}, num(1), text("x")))
	checkWith(t, abc(), "f", x, record([]string{"b", "d", "f"}, num(1), truth(1), x), record([]string{"b", "d"}, num(1), truth(1)))
	checkWith(t, record(nil), "a", x, record([]string{"a"}, x), record(nil))
	checkWith(t, record([]string{"a"}, num(1)), "a", num(1), record([]string{"a"}, num(1)), record(nil))
	// Names are compared byte by byte.
	checkWith(t, record([]string{"_", "a"}, num(1), num(2)), "Z", x, record([]string{"Z", "_", "a"}, x, num(1), num(2)), record([]string{"_", "a"}, num(1), num(2)))
	checkWith(t, record([]string{"a", "b"}, num(1), num(2)), "\xff", x, record([]string{"a", "b", "\xff"}, num(1), num(2), x), record([]string{"a", "b"}, num(1), num(2)))
	// A ninth field is laid, too.
	checkWith(t, record(eight, many(8)...), "i", num(8), record(nine, many(9)...), record(eight, many(8)...))
}

// TestWithWrong: P8.3: of records that aren't right, and of what is none, or has fewer parts than names.
func TestWithWrong(t *testing.T) {
	x := num(9)
	checkWith(t, record([]string{"a", "a"}, num(1), num(2)), "a", x, record([]string{"a", "a"}, x, num(2)), record([]string{"a"}, num(2)))
	checkWith(t, record([]string{"d", "a"}, num(1), num(2)), "c", x, record([]string{"c", "d", "a"}, x, num(1), num(2)), record([]string{"d", "a"}, num(1), num(2)))
	checkWith(t, record([]string{"d", "a"}, num(1), num(2)), "a", x, record([]string{"d", "a"}, num(1), x), record([]string{"d"}, num(1)))
	checkWith(t, record([]string{"a", "z", "b"}, many(3)...), "c", x, record([]string{"a", "c", "z", "b"}, num(0), x, num(1), num(2)), record([]string{"a", "z", "b"}, many(3)...))
	checkWith(t, record([]string{"a"}, num(1), num(2)), "b", x, record([]string{"a", "b"}, num(1), x, num(2)), record([]string{"a"}, num(1), num(2)))
	checkWith(t, record([]string{"a"}, num(1), num(2)), "a", x, record([]string{"a"}, x, num(2)), record(nil, num(2)))
	checkWith(t, record(nil, num(2)), "a", x, record([]string{"a"}, x, num(2)), record(nil, num(2)))
	odd := api.Value{Kind: api.Record, N: 3, S: "s", Ids: []uint64{4}, Names: []string{"a"}, Parts: []api.Value{num(1)}}
	with, without := plain(odd), plain(odd)
	with.Parts[0] = x
	without.Names, without.Parts = nil, nil
	checkWith(t, odd, "a", x, with, without)
	for _, v := range noRecords() {
		for _, name := range []string{"a", "b", "d", "z", ""} {
			checkWith(t, v, name, x, v, v)
		}
	}
}

// TestWithAny: P8.3: any names, in any values, as the model says.
func TestWithAny(t *testing.T) {
	r := chance()
	for range 5000 {
		v, x, name := someValue(r, 3), someValue(r, 2), someName(r)
		if r.IntN(2) == 0 {
			v = record(someNames(r, r.IntN(9)))
			for range v.Names {
				v.Parts = append(v.Parts, someValue(r, 2))
			}
		}
		if r.IntN(3) == 0 {
			spoil(r, &v)
		}
		checkWith(t, v, name, x, wantWith(v, name, x), wantWithout(v, name))
		if Right(v) && v.Kind == api.Record && len(v.Names) < api.MaxWords && (!Right(With(v, name, x)) || !Right(Without(v, name))) {
			t.Errorf("With, Without of %v, %q: not right", v, name)
		}
	}
}

// TestElem: P8.3: of a list the place of the first element of that number.
func TestElem(t *testing.T) {
	v := list([]uint64{4, 9, math.MaxUint64, 9}, many(4)...)
	for _, c := range []struct {
		v    api.Value
		id   uint64
		want int
		ok   bool
	}{
		{v, 4, 0, true}, {v, 9, 1, true}, {v, math.MaxUint64, 2, true}, {v, 0, 0, false}, {v, 5, 0, false}, {v, 1, 0, false},
		{list([]uint64{0, 3}, many(2)...), 0, 0, true}, {list([]uint64{3, 0}, many(2)...), 0, 1, true},
		{list(nil), 1, 0, false}, {list(nil, num(1)), 1, 0, false},
		{list([]uint64{3, 5}), 5, 1, true}, {list([]uint64{3, 5}, num(1)), 5, 1, true},
		{api.Value{Ids: []uint64{1}}, 1, 0, false},
		{api.Value{Kind: api.Record, Ids: []uint64{2, 1}}, 1, 0, false},
		{api.Value{Kind: api.Int, Ids: []uint64{2, 1}, Parts: many(2)}, 1, 0, false},
		{api.Value{Kind: 7, Ids: []uint64{2, 1}, Parts: many(2)}, 1, 0, false},
		{num(1), 1, 0, false},
	} {
		if i, ok := Elem(c.v, c.id); i != c.want || ok != c.ok {
			t.Errorf("Elem(%v, %d): %d %v", c.v, c.id, i, ok)
		}
	}
	checkOwn(t, "Elem", v, v, func(v, _ api.Value) api.Value {
		i, _ := Elem(v, 9)
		return num(i)
	})
}

// TestRecord: P8.3: each field laid by With, as many as there are of both.
func TestRecord(t *testing.T) {
	for _, c := range []struct {
		names []string
		parts []api.Value
		want  api.Value
	}{
		{nil, nil, record(nil)},
		{[]string{"a"}, nil, record(nil)},
		{nil, many(3), record(nil)},
		{[]string{"b", "a"}, []api.Value{num(5), truth(1)}, record([]string{"a", "b"}, truth(1), num(5))},
		{[]string{"c", "a", "b"}, many(2), record([]string{"a", "c"}, num(1), num(0))},
		{[]string{"c", "a"}, many(3), record([]string{"a", "c"}, num(1), num(0))},
		{[]string{"a", "b", "a"}, many(3), record([]string{"a", "b"}, num(2), num(1))},
		{[]string{"B", "", "a"}, many(3), record([]string{"", "B", "a"}, num(1), num(0), num(2))},
		{[]string{"i", "h", "g", "f", "e", "d", "c", "b", "a"}, many(9), record(nine, num(8), num(7), num(6), num(5), num(4), num(3), num(2), num(1), num(0))},
	} {
		if got := Record(c.names, c.parts...); !equal(got, c.want) {
			t.Errorf("Record(%q, %v): %v", c.names, c.parts, got)
		}
		checkOwn(t, "Record", record(c.names, c.parts...), num(1), func(v, _ api.Value) api.Value { return Record(v.Names, v.Parts...) })
	}
	x := inLists(num(1), 2)
	checkOwn(t, "Record of one part twice", x, x, func(x, _ api.Value) api.Value { return Record([]string{"a", "b"}, x, x) })
	twice := Record([]string{"a", "b"}, x, x)
	scramble(twice.Parts[0])
	if !equal(twice.Parts[1], x) {
		t.Error("two parts share")
	}
}

// TestRecordAny: P8.3: any names, as With laid one behind the other.
func TestRecordAny(t *testing.T) {
	r := chance()
	for range 2000 {
		var names []string
		var parts []api.Value
		for range r.IntN(10) {
			names = append(names, someName(r))
		}
		for range r.IntN(10) {
			parts = append(parts, someValue(r, 2))
		}
		want := record(nil)
		for i := range min(len(names), len(parts)) {
			want = wantWith(want, names[i], parts[i])
		}
		if got := Record(names, parts...); !equal(got, want) {
			t.Errorf("Record(%q, %v): %v", names, parts, got)
		}
	}
}
