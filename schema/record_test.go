package schema

import (
	"slices"
	"testing"

	"dioptre/api"
)

// bdf is a record with room between, ahead of and behind its names.
func bdf() api.Schema {
	return record([]string{"b", "d", "f"}, of(api.Bool), of(api.Int), enum("x"))
}

// noRecords are no records that have a part for each name.
func noRecords() []api.Schema {
	return []api.Schema{
		{}, of(api.Int), of(api.Bool), of(api.Text), enum("a"), list(of(api.Int)),
		record([]string{"a"}), record([]string{"a", "b"}, many(1)...), record([]string{"b", "d", "f"}, many(2)...),
		{Words: []string{"a"}, Parts: many(1)},
		{Kind: api.Enum, Words: []string{"a"}, Parts: many(1)},
		{Kind: api.List, Words: []string{"a"}, Parts: many(1)},
		{Kind: 7, Words: []string{"a"}, Parts: many(1)},
		{Kind: -1, Words: []string{"a"}, Parts: many(1)},
	}
}

// TestField: P9.3: the part of the first field of that name, of a record that has no fewer parts than names.
func TestField(t *testing.T) {
	check := func(s api.Schema, name string, want api.Schema, ok bool) {
		t.Helper()
		if x, found := Field(s, name); !equal(x, want) || found != ok {
			t.Errorf("Field(%v, %q): %v %v", s, name, x, found)
		}
	}
	check(bdf(), "b", of(api.Bool), true)
	check(bdf(), "d", of(api.Int), true)
	check(bdf(), "f", enum("x"), true)
	for _, name := range []string{"", "a", "c", "e", "g", "B", "bb", "b "} {
		check(bdf(), name, api.Schema{}, false)
	}
	check(record([]string{"a", "a"}, many(2)...), "a", of(api.Bool), true)
	check(record([]string{"z", "a", "z"}, many(3)...), "z", of(api.Bool), true)
	check(record([]string{"a"}, many(2)...), "a", of(api.Bool), true)
	check(record([]string{"", "A b"}, many(2)...), "A b", of(api.Int), true)
	check(record([]string{"a"}, enum()), "a", enum(), true)
	check(record([]string{"a"}, api.Schema{}), "a", api.Schema{}, true)
	check(record(nil), "a", api.Schema{}, false)
	check(record(nil, many(1)...), "", api.Schema{}, false)
	for _, s := range noRecords() {
		for _, name := range []string{"a", "b", "d", ""} {
			check(s, name, api.Schema{}, false)
		}
	}
	checkOwn(t, "Field", record([]string{"a"}, inLists(record([]string{"x"}, enum("y")), 2)), of(api.Int), func(s, _ api.Schema) api.Schema {
		x, _ := Field(s, "a")
		return x
	})
}

// wantWith is the record with the field, by the chapter's words.
func wantWith(s api.Schema, name string, x api.Schema) api.Schema {
	s = plain(s)
	if s.Kind != api.Record || len(s.Parts) < len(s.Words) {
		return s
	}
	for i := range s.Words {
		if s.Words[i] == name {
			s.Parts[i] = x
			return s
		}
	}
	at := 0
	for at < len(s.Words) && s.Words[at] < name {
		at++
	}
	s.Words = slices.Concat(s.Words[:at], []string{name}, s.Words[at:])
	s.Parts = slices.Concat(s.Parts[:at], []api.Schema{x}, s.Parts[at:])
	return s
}

// wantWithout is the record without the field.
func wantWithout(s api.Schema, name string) api.Schema {
	s = plain(s)
	if s.Kind != api.Record || len(s.Parts) < len(s.Words) {
		return s
	}
	for i := range s.Words {
		if s.Words[i] == name {
			s.Words = slices.Concat(s.Words[:i], s.Words[i+1:])
			s.Parts = slices.Concat(s.Parts[:i], s.Parts[i+1:])
			return s
		}
	}
	return s
}

// checkWith: With and Without say this, and so does the model.
func checkWith(t *testing.T, s api.Schema, name string, x, with, without api.Schema) {
	t.Helper()
	if got := With(s, name, x); !equal(got, with) || !equal(wantWith(s, name, x), with) {
		t.Errorf("With(%v, %q, %v): %v, the model: %v", s, name, x, got, wantWith(s, name, x))
	}
	if got := Without(s, name); !equal(got, without) || !equal(wantWithout(s, name), without) {
		t.Errorf("Without(%v, %q): %v, the model: %v", s, name, got, wantWithout(s, name))
	}
	checkOwn(t, "With", s, x, func(s, x api.Schema) api.Schema { return With(s, name, x) })
	checkOwn(t, "Without", s, x, func(s, _ api.Schema) api.Schema { return Without(s, name) })
}

// TestWith: P9.3: a name ahead of all, between, behind all, and there already.
func TestWith(t *testing.T) {
	b, d, f := of(api.Bool), of(api.Int), enum("x")
	x := list(record([]string{"y"}, enum("z")))
	checkWith(t, bdf(), "a", x, record([]string{"a", "b", "d", "f"}, x, b, d, f), bdf())
	checkWith(t, bdf(), "", x, record([]string{"", "b", "d", "f"}, x, b, d, f), bdf())
	checkWith(t, bdf(), "c", x, record([]string{"b", "c", "d", "f"}, b, x, d, f), bdf())
	checkWith(t, bdf(), "e", x, record([]string{"b", "d", "e", "f"}, b, d, x, f), bdf())
	checkWith(t, bdf(), "g", x, record([]string{"b", "d", "f", "g"}, b, d, f, x), bdf())
	checkWith(t, bdf(), "b", x, record([]string{"b", "d", "f"}, x, d, f), record([]string{"d", "f"}, d, f))
	checkWith(t, bdf(), "d", x, record([]string{"b", "d", "f"}, b, x, f), record([]string{"b", "f"}, b, f))
	checkWith(t, bdf(), "f", x, record([]string{"b", "d", "f"}, b, d, x), record([]string{"b", "d"}, b, d))
	checkWith(t, record(nil), "a", x, record([]string{"a"}, x), record(nil))
	checkWith(t, record([]string{"a"}, d), "a", d, record([]string{"a"}, d), record(nil))
	checkWith(t, record([]string{"_", "a"}, b, d), "Z", x, record([]string{"Z", "_", "a"}, x, b, d), record([]string{"_", "a"}, b, d))
	// A ninth field is laid, too.
	checkWith(t, record(eight, many(8)...), "i", many(9)[8], record(nine, many(9)...), record(eight, many(8)...))
}

// TestWithWrong: P9.3: of records that aren't right, and of what is none, or has fewer parts than names.
func TestWithWrong(t *testing.T) {
	x, l := enum("x"), many(3)
	checkWith(t, record([]string{"a", "a"}, l[:2]...), "a", x, record([]string{"a", "a"}, x, l[1]), record([]string{"a"}, l[1]))
	checkWith(t, record([]string{"d", "a"}, l[:2]...), "c", x, record([]string{"c", "d", "a"}, x, l[0], l[1]), record([]string{"d", "a"}, l[:2]...))
	checkWith(t, record([]string{"d", "a"}, l[:2]...), "a", x, record([]string{"d", "a"}, l[0], x), record([]string{"d"}, l[0]))
	checkWith(t, record([]string{"a"}, l[:2]...), "b", x, record([]string{"a", "b"}, l[0], x, l[1]), record([]string{"a"}, l[:2]...))
	checkWith(t, record([]string{"a"}, l[:2]...), "a", x, record([]string{"a"}, x, l[1]), record(nil, l[1]))
	checkWith(t, record(nil, l[0]), "a", x, record([]string{"a"}, x, l[0]), record(nil, l[0]))
	for _, s := range noRecords() {
		for _, name := range []string{"a", "b", "d", "z", ""} {
			checkWith(t, s, name, x, s, s)
		}
	}
}

// TestWithAny: P9.3: any names, in any schemas, as the model says.
func TestWithAny(t *testing.T) {
	r := chance()
	for range 5000 {
		s, x, name := someSchema(r, 3), someSchema(r, 2), someName(r)
		if r.IntN(2) == 0 {
			s = record(slices.Sorted(slices.Values(someNames(r, r.IntN(9)))))
			for range s.Words {
				s.Parts = append(s.Parts, someSchema(r, 2))
			}
		}
		if r.IntN(3) == 0 {
			spoil(r, &s)
		}
		checkWith(t, s, name, x, wantWith(s, name, x), wantWithout(s, name))
	}
}

// TestRecord: P9.3: each field laid by With, as many as there are of both.
func TestRecord(t *testing.T) {
	l := many(3)
	for _, c := range []struct {
		names []string
		parts []api.Schema
		want  api.Schema
	}{
		{nil, nil, record(nil)},
		{[]string{"a"}, nil, record(nil)},
		{nil, l, record(nil)},
		{[]string{"b", "a"}, l[:2], record([]string{"a", "b"}, l[1], l[0])},
		{[]string{"c", "a", "b"}, l[:2], record([]string{"a", "c"}, l[1], l[0])},
		{[]string{"c", "a"}, l, record([]string{"a", "c"}, l[1], l[0])},
		{[]string{"a", "b", "a"}, l, record([]string{"a", "b"}, l[2], l[1])},
		{[]string{"B", "", "a"}, l, record([]string{"", "B", "a"}, l[1], l[0], l[2])},
		{nine, many(9), record(nine, many(9)...)},
	} {
		if got := Record(c.names, c.parts...); !equal(got, c.want) {
			t.Errorf("Record(%q, %v): %v", c.names, c.parts, got)
		}
		checkOwn(t, "Record", record(c.names, c.parts...), of(api.Int), func(s, _ api.Schema) api.Schema { return Record(s.Words, s.Parts...) })
	}
	x := inLists(enum("a"), 2)
	twice := Record([]string{"a", "b"}, x, x)
	scramble(twice.Parts[0])
	if !equal(twice.Parts[1], x) || !equal(x, inLists(enum("a"), 2)) {
		t.Error("two parts share, or one with what was handed in")
	}
	r := chance()
	for range 2000 {
		var names []string
		var parts []api.Schema
		for range r.IntN(10) {
			names, parts = append(names, someName(r)), append(parts, someSchema(r, 2))
		}
		want := record(nil)
		for i, name := range names {
			want = wantWith(want, name, parts[i])
		}
		if got := Record(names, parts...); !equal(got, want) {
			t.Errorf("Record(%q, %v): %v", names, parts, got)
		}
	}
}
