package schema

import (
	"math"
	"slices"
	"testing"

	"dioptre/api"
	"dioptre/trial"
)

var (
	eight = []string{"a", "b", "c", "d", "e", "f", "g", "h"}
	nine  = append(eight[:8:8], "i")
)

// many are as many small schemas.
func many(n int) []api.Schema {
	var l []api.Schema
	for i := range n {
		l = append(l, of(1+i%3))
	}
	return l
}

// rightSchemas are right, each kind, and at the edges.
func rightSchemas() map[string]api.Schema {
	return map[string]api.Schema{
		"Bool": of(api.Bool), "Int": of(api.Int), "Text": of(api.Text),
		"one word": enum("a"), "two words": enum("red", "blue"), "eight words": enum("h", "b", "a", "d", "c", "e", "g", "f"), "words of 12": enum("abcdefghij_9", "abcdefghij_8"),
		"empty record": record(nil), "record": record([]string{"a", "c"}, of(api.Int), enum("red", "blue")),
		"names that begin alike": record([]string{"0", "_", "a", "aa", "ab", "b"}, many(6)...), "eight fields": record(eight, many(8)...),
		"list": list(of(api.Bool)), "list of records": list(record([]string{"a"}, list(enum("x")))),
		"five deep, lists": inLists(of(api.Int), 4), "five deep, records": inRecords(enum("a", "b"), 4), "five deep, an empty record": inLists(record(nil), 4),
		"five deep, mixed": inRecords(inLists(of(api.Text), 2), 2), "deep behind": record([]string{"a", "b"}, of(api.Int), inLists(of(api.Int), 3)),
		"lists that aren't nil":          {Kind: api.Int, Words: []string{}, Parts: []api.Schema{}},
		"a record's that aren't nil":     {Kind: api.Record, Words: []string{}, Parts: []api.Schema{}},
		"a list's words that aren't nil": {Kind: api.List, Words: []string{}, Parts: many(1)},
		"an enum's parts that aren't":    {Kind: api.Enum, Words: []string{"a"}, Parts: []api.Schema{}},
	}
}

// wrongSchemas aren't right.
func wrongSchemas() map[string]api.Schema {
	return map[string]api.Schema{
		"zero": {}, "kind 7": of(7), "kind -1": of(-1), "kind 257": of(257), "kind 262": of(262), "the least kind": of(math.MinInt),
		"Bool with words": {Kind: api.Bool, Words: []string{"a"}}, "Int with words": {Kind: api.Int, Words: []string{"a"}}, "Text with words": {Kind: api.Text, Words: []string{"a"}},
		"Bool with a part": {Kind: api.Bool, Parts: many(1)}, "Int with a part": {Kind: api.Int, Parts: many(1)}, "Text with a part": {Kind: api.Text, Parts: many(1)},
		"Text with both": {Kind: api.Text, Words: []string{"a"}, Parts: many(1)}, "Enum with parts": {Kind: api.Enum, Words: []string{"a"}, Parts: many(1)}, "List with words": {Kind: api.List, Words: []string{"a"}, Parts: many(1)},
		"no words": enum(), "nine words": enum(nine...), "the same word": enum("a", "a"), "the same word, apart": enum("b", "a", "c", "b"),
		"an empty word": enum("a", ""), "a word of 13": enum("abcdefghijklm"), "a great word": enum("a", "B"), "a blank word": enum("a b"),
		"nine fields": record(nine, many(9)...), "fewer parts": record([]string{"a", "b"}, many(1)...), "more parts": record([]string{"a"}, many(2)...),
		"no parts": record([]string{"a"}), "no names": record(nil, many(1)...), "nine names, eight parts": record(nine, many(8)...),
		"the same names": record([]string{"a", "a"}, many(2)...), "the same names behind": record([]string{"0", "a", "a"}, many(3)...),
		"names that fall": record([]string{"b", "a"}, many(2)...), "that fall behind": record([]string{"a", "c", "b"}, many(3)...), "the longer one first": record([]string{"aa", "a"}, many(2)...),
		"a name of none": record([]string{""}, many(1)...), "a name of 13": record([]string{"abcdefghijklm"}, many(1)...), "a great name": record([]string{"A", "b"}, many(2)...),
		"a wrong part": record([]string{"a", "b"}, of(api.Int), enum()), "a part of no kind": record([]string{"a"}, api.Schema{}),
		"list of none": {Kind: api.List}, "list of two": {Kind: api.List, Parts: many(2)}, "list of a wrong one": list(enum()), "list of no kind": list(api.Schema{}), "list of a list of none": list(of(api.List)),
		"six deep, lists": inLists(of(api.Int), 5), "six deep, records": inRecords(of(api.Int), 5), "six deep, empty": inLists(record(nil), 5),
		"six deep, mixed": inLists(inRecords(record(nil), 2), 3), "six deep behind": record([]string{"a", "b"}, of(api.Int), inLists(of(api.Int), 4)), "far too deep": inLists(of(api.Int), 100),
	}
}

// checkRight: Right says this, and so does the model; what isn't right has no bytes and no default, isn't part of what is, and nothing fits it.
func checkRight(t *testing.T, name string, s api.Schema, want bool) {
	t.Helper()
	if Right(s) != want || wantRight(s) != want {
		t.Errorf("%s: Right of %v: %v, the model: %v", name, s, Right(s), wantRight(s))
	}
	b, e := Encode(s)
	if want {
		trial.Code(t, name, e, api.OK)
		return
	}
	trial.Code(t, name, e, api.ErrArg)
	if v := Default(s); len(b) > 0 || v.Kind != 0 || v.N != 0 || v.S != "" || len(v.Names)+len(v.Ids)+len(v.Parts) > 0 {
		t.Errorf("%s: %x, Default %v", name, b, v)
	}
	if Right(list(s)) || Right(record([]string{"a", "b"}, s, of(api.Int))) || Right(record([]string{"a", "b"}, of(api.Int), s)) {
		t.Errorf("%s: right as a part", name)
	}
}

// TestRight: P9.1: schemas of each kind, at the edges, and wrong ones.
func TestRight(t *testing.T) {
	for name, s := range rightSchemas() {
		checkRight(t, name, s, true)
	}
	for name, s := range wrongSchemas() {
		checkRight(t, name, s, false)
	}
}

// TestRightAny: P9.1: any schemas, right ones and such as were changed somewhere, as the model says.
func TestRightAny(t *testing.T) {
	r := chance()
	count := map[bool]int{}
	for range 20000 {
		s := someSchema(r, 5)
		if !Right(s) || !wantRight(s) {
			t.Fatalf("Right of %v: %v", s, Right(s))
		}
		for range 1 + r.IntN(2) {
			spoil(r, &s)
		}
		want := wantRight(s)
		count[want]++
		if Right(s) != want {
			t.Fatalf("Right of %v: %v", s, !want)
		}
	}
	if count[true] < 1000 || count[false] < 1000 {
		t.Errorf("%v", count)
	}
}

// TestScalar: P9.1: whether the kind is Bool, Int, Text or Enum, whatever else there is.
func TestScalar(t *testing.T) {
	for kind := -3; kind < 300; kind++ {
		for _, s := range []api.Schema{of(kind), {Kind: kind, Words: []string{"a", "a"}}, {Kind: kind, Parts: many(3)}} {
			if Scalar(s) != (kind >= api.Bool && kind <= api.Enum) {
				t.Errorf("Scalar of %v: %v", s, Scalar(s))
			}
		}
	}
}

// differing are schemas that are like no other one of them, right or not.
func differing() []api.Schema {
	return []api.Schema{
		{}, of(7), of(-1), of(api.Bool), of(api.Int), of(api.Text), enum(), enum("a"), enum("b"), enum("a", "b"), enum("b", "a"), enum("a", "b", "c"), enum(""), enum("A"),
		{Words: []string{"a"}}, {Parts: many(1)}, {Parts: many(2)}, {Kind: api.Int, Words: []string{"a"}}, {Kind: api.Int, Parts: many(1)},
		record(nil), record([]string{"a"}), record(nil, many(1)...), record([]string{"a"}, many(1)...), record([]string{"b"}, many(1)...), record([]string{"a"}, of(api.Int)), record([]string{"a"}, many(2)...),
		record([]string{"a", "b"}, many(2)...), record([]string{"b", "a"}, many(2)...), record([]string{"a", "b"}, of(api.Int), of(api.Bool)), record([]string{"a", "b"}, of(api.Int), enum("x")), record([]string{"a", "b"}, of(api.Int), enum("y")),
		of(api.List), list(of(api.Bool)), list(of(api.Int)), {Kind: api.List, Parts: many(2)}, {Kind: api.List, Parts: many(3)}, {Kind: api.List, Words: []string{"a"}, Parts: many(1)},
		inLists(of(api.Int), 2), inLists(of(api.Int), 3), inLists(of(api.Text), 3), inRecords(of(api.Int), 3), inLists(inRecords(of(api.Int), 1), 2), inRecords(inLists(of(api.Int), 2), 1),
	}
}

// checkSame: Same says this, whichever comes first.
func checkSame(t *testing.T, name string, a, b api.Schema, want bool) {
	t.Helper()
	if Same(a, b) != want || Same(b, a) != want {
		t.Errorf("%s: Same of %v and %v: %v, %v", name, a, b, Same(a, b), Same(b, a))
	}
}

// TestSame: P9.1: whether they are the same, in all fields.
func TestSame(t *testing.T) {
	l := differing()
	for i, a := range l {
		for j, b := range l {
			checkSame(t, "differing", a, plain(b), i == j)
			checkSame(t, "within", inLists(a, 3), inLists(plain(b), 3), i == j)
			checkSame(t, "behind", record([]string{"a", "b"}, of(api.Int), a), record([]string{"a", "b"}, of(api.Int), plain(b)), i == j)
		}
	}
	empty := api.Schema{Kind: api.Record, Words: []string{}, Parts: []api.Schema{}}
	checkSame(t, "nil and empty", inLists(empty, 2), inLists(record(nil), 2), true)
	checkSame(t, "with spare room", roomy(inLists(enum("a"), 2)), inLists(enum("a"), 2), true)
	r := chance()
	for range 20000 {
		a := someSchema(r, 4)
		b := plain(a)
		spoil(r, &b)
		checkSame(t, "spoiled", a, b, equal(a, b))
	}
}

// TestDepth: P9.1: of any schema, right or not.
func TestDepth(t *testing.T) {
	for _, c := range []struct {
		name string
		s    api.Schema
		want int
	}{
		{"zero", api.Schema{}, 1},
		{"Int", of(api.Int), 1},
		{"Enum", enum("a", "b"), 1},
		{"names without parts", record([]string{"a", "b"}), 1},
		{"record", record([]string{"a", "b"}, many(2)...), 2},
		{"an Int's parts", api.Schema{Kind: api.Int, Parts: []api.Schema{{}, list(of(api.Int))}}, 3},
		{"deep ahead", record([]string{"a", "b"}, inLists(of(api.Int), 3), list(of(api.Int))), 5},
		{"deep behind", record([]string{"a", "b"}, list(of(api.Int)), inLists(of(api.Int), 3)), 5},
		{"too deep", inRecords(of(api.Int), 5), 6},
		{"far too deep", inLists(of(api.Int), 100), 101},
	} {
		if Depth(c.s) != c.want {
			t.Errorf("%s: Depth %d, not %d", c.name, Depth(c.s), c.want)
		}
	}
	r := chance()
	for range 3000 {
		s := someSchema(r, 6)
		spoil(r, &s)
		if Depth(s) != wantDepth(s) {
			t.Errorf("Depth %d of %v", Depth(s), s)
		}
	}
}

// TestCopy: P9.1: the same one, also of one that isn't right, and nothing is shared with it.
func TestCopy(t *testing.T) {
	check := func(s api.Schema) {
		t.Helper()
		if c := Copy(s); !equal(c, s) || !Same(c, s) {
			t.Errorf("Copy of %v: %v", s, c)
		}
		checkOwn(t, "Copy", s, s, func(s, _ api.Schema) api.Schema { return Copy(s) })
	}
	for _, s := range differing() {
		check(s)
	}
	for _, s := range rightSchemas() {
		check(s)
	}
	r := chance()
	for range 2000 {
		s := someSchema(r, 6)
		spoil(r, &s)
		check(s)
	}
	l := many(1)
	twice := Copy(record([]string{"a", "b"}, api.Schema{Kind: api.List, Parts: l}, api.Schema{Kind: api.List, Parts: l}))
	twice.Parts[0].Parts[0].Kind = 9
	if twice.Parts[1].Parts[0].Kind == 9 {
		t.Error("two places of a copy share")
	}
}

// TestDeep: every call ends, of a schema however deep it is.
func TestDeep(t *testing.T) {
	const n = 1000000
	s := inLists(of(api.Int), n)
	c := Copy(s)
	if !Same(s, c) || Depth(c) != n+1 || Right(s) || Default(s).Kind != 0 || Fits(api.Value{Kind: api.List}, s) {
		t.Error("deep:", Depth(s), Right(s))
	}
	_, e := Encode(s)
	trial.Code(t, "deep", e, api.ErrArg)
	if x, ok := Field(record([]string{"a"}, s), "a"); !ok || Depth(With(record(nil), "a", x)) != n+2 {
		t.Error("deep: records")
	}
}

// TestRings: every call ends, also of schemas that lie within themselves: these have no depth and no copy.
func TestRings(t *testing.T) {
	one := list(of(api.Int))
	one.Parts[0] = one
	all := record(eight, many(8)...)
	for i := range all.Parts {
		all.Parts[i] = all
	}
	var each []api.Schema // each one of them has them all, in a list of its own
	for range 8 {
		each = append(each, record(eight, many(8)...))
	}
	for _, s := range each {
		copy(s.Parts, each)
	}
	for i, s := range []api.Schema{one, all, each[3], inLists(one, 3), record([]string{"a", "b"}, of(api.Int), all)} {
		if Right(s) || Depth(s) != 0 || !equal(Copy(s), api.Schema{}) || Default(s).Kind != 0 || Fits(api.Value{Kind: s.Kind}, s) {
			t.Error("ring", i, Right(s), Depth(s))
		}
		checkSame(t, "ring", s, s, false)
		_, e := Encode(s)
		trial.Code(t, "ring", e, api.ErrArg)
		x, ok := Field(record([]string{"a"}, s), "a")
		if !ok || !equal(x, api.Schema{}) || !equal(With(s, "a", s), api.Schema{}) || !equal(Without(s, "a"), api.Schema{}) || !slices.Equal(Record([]string{"a"}, s).Words, []string{"a"}) {
			t.Error("ring", i, "Field, With, Without, Record")
		}
	}
}
