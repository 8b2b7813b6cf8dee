package path

import (
	"math"
	"slices"
	"testing"

	"dioptre/api"
	"dioptre/schema"
	"dioptre/value"
)

// house is a value with some of each.
func house() api.Value {
	return record([]string{"a", "b", "c"}, list([]uint64{3, 7, math.MaxUint64}, num(33), record([]string{"x"}, num(77)), list(nil)), record([]string{"c"}, num(-5)), api.Value{Kind: api.Text, S: "t"})
}

// checkPlace: Get and Put say this, and so does the model; what is put stands there.
func checkPlace(t *testing.T, v api.Value, p []api.Step, want api.Value, ok bool) {
	t.Helper()
	got, found := Get(v, p...)
	model, there := wantThere(v, p)
	if !value.Same(got, want) || found != ok || !value.Same(model, want) || there != ok {
		t.Errorf("Get(%v, %v): %v %v, the model: %v %v", v, p, got, found, model, there)
	}
	x := record([]string{"new"}, list([]uint64{5}, num(99)))
	got, found = Put(v, x, p...)
	model, there = wantPut(v, x, p)
	if !value.Same(got, model) || found != ok || there != ok {
		t.Errorf("Put(%v, %v): %v %v, the model: %v %v", v, p, got, found, model, there)
	}
	if !ok && !value.Same(got, v) {
		t.Errorf("Put(%v, %v), where nothing stands: %v", v, p, got)
	}
	if y, stands := Get(got, p...); ok && (!stands || !value.Same(y, x)) {
		t.Errorf("Put(%v, %v): there stands %v %v", v, p, y, stands)
	}
}

// TestGetPut: P10.1: fields, elements, and what isn't there.
func TestGetPut(t *testing.T) {
	h := house()
	checkPlace(t, h, nil, h, true)
	checkPlace(t, h, []api.Step{}, h, true)
	checkPlace(t, h, steps("a"), h.Parts[0], true)
	checkPlace(t, h, steps("a", 3), num(33), true)
	checkPlace(t, h, steps("a", 7), record([]string{"x"}, num(77)), true)
	checkPlace(t, h, steps("a", 7, "x"), num(77), true)
	checkPlace(t, h, steps("a", uint64(math.MaxUint64)), list(nil), true)
	checkPlace(t, h, steps("b"), h.Parts[1], true)
	checkPlace(t, h, steps("b", "c"), num(-5), true)
	checkPlace(t, h, steps("c"), h.Parts[2], true)
	checkPlace(t, list([]uint64{2, 1}, num(22), num(11)), steps(1), num(11), true)
	checkPlace(t, num(5), nil, num(5), true)
	checkPlace(t, inLists(num(5), 4), steps(1, 1, 1, 1), num(5), true)
	for _, p := range [][]api.Step{
		steps("d"), steps("x"), steps(1), steps(3), steps(""), steps("A"), steps("aa"), steps("a", 4), steps("a", 0), steps("a", 1), steps("a", "x"),
		steps("a", 3, 1), steps("a", 3, "x"), steps("a", 7, "y"), steps("a", 7, "x", "x"), steps("a", 7, "x", 1), steps("a", uint64(math.MaxUint64), 1),
		steps("b", "a"), steps("b", 1), steps("b", "c", "c"), steps("c", "c"), steps("c", 1), steps("c", ""), steps("d", "a"), steps("d", 3),
	} {
		checkPlace(t, h, p, api.Value{}, false)
	}
	for _, v := range []api.Value{{}, num(5), {Kind: api.Bool, N: 1}, {Kind: api.Text, S: "a"}, {Kind: api.Enum, S: "a"}, record(nil), list(nil)} {
		for _, p := range [][]api.Step{steps("a"), steps(1), steps(0), steps("a", "a"), steps(1, 1)} {
			checkPlace(t, v, p, api.Value{}, false)
		}
	}
}

// TestGetPutWrong: P10.1: of values and paths that aren't right: the first field, or element, that is like the step, of as many parts as there are.
func TestGetPutWrong(t *testing.T) {
	checkPlace(t, record([]string{"a", "a"}, num(1), num(2)), steps("a"), num(1), true)
	checkPlace(t, record([]string{"z", "a", "z"}, num(1), num(2), num(3)), steps("z"), num(1), true)
	checkPlace(t, record([]string{"a"}, num(1), num(2)), steps("a"), num(1), true)
	checkPlace(t, record([]string{"a", "b"}, num(1)), steps("a"), api.Value{}, false)
	checkPlace(t, record([]string{"a", "b"}, num(1)), steps("b"), api.Value{}, false)
	checkPlace(t, record([]string{"a"}), steps("a"), api.Value{}, false)
	checkPlace(t, record([]string{"", "A b"}, num(1), num(2)), steps("A b"), num(2), true)
	checkPlace(t, record([]string{"", "A b"}, num(1), num(2)), steps(""), api.Value{}, false)
	checkPlace(t, record([]string{"a"}, num(1)), steps(api.Step{Name: "a", Id: 7}), num(1), true)
	checkPlace(t, record([]string{"a"}, api.Value{Kind: 9}), steps("a"), api.Value{Kind: 9}, true)
	checkPlace(t, list([]uint64{4, 5, 5}, num(1), num(2), num(3)), steps(5), num(2), true)
	checkPlace(t, list([]uint64{4, 5, 6}, num(1), num(2)), steps(5), num(2), true)
	checkPlace(t, list([]uint64{4, 5, 6}, num(1), num(2)), steps(6), api.Value{}, false)
	checkPlace(t, list([]uint64{4, 5, 5}, num(1)), steps(5), api.Value{}, false)
	checkPlace(t, list([]uint64{4}), steps(4), api.Value{}, false)
	checkPlace(t, list([]uint64{4}, num(1), num(2)), steps(4), num(1), true)
	checkPlace(t, list([]uint64{3, 0}, num(1), num(2)), steps(0), num(2), true)
	checkPlace(t, list([]uint64{3}, num(1)), steps(api.Step{Name: "a", Id: 3}), api.Value{}, false)
	for _, v := range []api.Value{
		{Names: []string{"a"}, Ids: []uint64{1}, Parts: []api.Value{num(1)}},
		{Kind: api.Int, Names: []string{"a"}, Ids: []uint64{1}, Parts: []api.Value{num(1)}},
		{Kind: api.Enum, Names: []string{"a"}, Ids: []uint64{1}, Parts: []api.Value{num(1)}},
		{Kind: 7, Names: []string{"a"}, Ids: []uint64{1}, Parts: []api.Value{num(1)}},
		{Kind: -1, Names: []string{"a"}, Ids: []uint64{1}, Parts: []api.Value{num(1)}},
	} {
		checkPlace(t, v, steps("a"), api.Value{}, false)
		checkPlace(t, v, steps(1), api.Value{}, false)
		checkPlace(t, v, nil, v, true)
	}
	both := api.Value{Kind: api.Record, Names: []string{"a"}, Ids: []uint64{1}, Parts: []api.Value{num(1)}}
	checkPlace(t, both, steps("a"), num(1), true)
	checkPlace(t, both, steps(1), api.Value{}, false)
	both.Kind = api.List
	checkPlace(t, both, steps("a"), api.Value{}, false)
	checkPlace(t, both, steps(1), num(1), true)
	// More steps than a right path has.
	checkPlace(t, inLists(num(5), 20), slices.Repeat(steps(1), 20), num(5), true)
	checkPlace(t, inLists(num(5), 20), slices.Repeat(steps(1), 21), api.Value{}, false)
}

// TestPutKinds: P10.1: anything may be put anywhere, also what isn't right.
func TestPutKinds(t *testing.T) {
	for _, x := range []api.Value{{}, {Kind: 9, N: 4}, num(7), record([]string{"b", "a"}, num(1)), inLists(num(1), 9), house()} {
		for _, p := range All(house()) {
			v, ok := Put(house(), x, p...)
			want, _ := wantPut(house(), x, p)
			if !ok || !value.Same(v, want) {
				t.Errorf("Put of %v at %v: %v %v", x, p, v, ok)
			}
		}
	}
	if v, ok := Put(record([]string{"a"}, num(5)), num(7), steps("a")...); !ok || !value.Same(v, record([]string{"a"}, num(7))) {
		t.Error("Put of 7 at a:", v, ok)
	}
}

// TestBeside: P10.4: what is put stands there, and nothing beside it is another.
func TestBeside(t *testing.T) {
	r := chance()
	for range 2000 {
		v, x := someValue(r, 5), someValue(r, 3)
		l := All(v)
		p := l[r.IntN(len(l))]
		w, ok := Put(v, x, p...)
		if y, stands := Get(w, p...); !ok || !stands || !value.Same(y, x) {
			t.Fatalf("Put(%v, %v, %v): %v", v, x, p, w)
		}
		for _, q := range l {
			if Begins(p, q) || Begins(q, p) {
				continue
			}
			a, _ := Get(v, q...)
			if b, stands := Get(w, q...); !stands || !value.Same(a, b) {
				t.Errorf("Put(%v, %v, %v): at %v %v", v, x, p, q, b)
			}
		}
		if back, _ := Get(v, p...); !samePut(w, back, p, v) {
			t.Errorf("Put(%v, %v, %v): there is no way back from %v", v, x, p, w)
		}
	}
}

// samePut tells whether this comes out, if that is put there.
func samePut(v, x api.Value, p []api.Step, want api.Value) bool {
	got, ok := Put(v, x, p...)
	return ok && value.Same(got, want)
}

// TestGetPutAny: P10.1: any values and paths, as the model says.
func TestGetPutAny(t *testing.T) {
	r := chance()
	count := map[bool]int{}
	for range 30000 {
		v, p := someValue(r, 5), somePath(r, 4)
		if l := All(v); r.IntN(4) > 0 {
			p = l[r.IntN(len(l))]
		}
		if r.IntN(2) == 0 {
			spoil(r, &v)
		}
		want, ok := wantThere(v, p)
		checkPlace(t, v, p, want, ok)
		count[ok && len(p) > 0]++
	}
	if count[true] < 3000 || count[false] < 3000 {
		t.Errorf("%v", count)
	}
}

// TestOwn: Get and Put change nothing, and share nothing.
func TestOwn(t *testing.T) {
	x := record([]string{"y"}, list([]uint64{1}, num(2)))
	for _, p := range append(All(house()), steps("d"), steps("a", 8), steps("a", 3, 1)) {
		checkOwn(t, "Get", house(), x, p, func(v, _ api.Value, p []api.Step) api.Value {
			y, _ := Get(v, p...)
			return y
		})
		checkOwn(t, "Put", house(), x, p, func(v, x api.Value, p []api.Step) api.Value {
			w, _ := Put(v, x, p...)
			return w
		})
	}
	// A value put into itself.
	checkOwn(t, "Put of itself", house(), x, steps("a", 7), func(v, _ api.Value, p []api.Step) api.Value {
		w, _ := Put(v, v, p...)
		return w
	})
	if w, ok := Put(house(), house(), steps("a")...); !ok || !value.Same(w.Parts[0], house()) || !value.Same(w.Parts[1], house().Parts[1]) {
		t.Error("Put of itself:", w, ok)
	}
}

// TestType: P10.1: the type there; any element of a list has its first part's.
func TestType(t *testing.T) {
	check := func(s api.Schema, p []api.Step, want api.Schema, ok bool) {
		t.Helper()
		got, found := Type(s, p...)
		model, there := wantType(s, p)
		if !schema.Same(got, want) || found != ok || !schema.Same(model, want) || there != ok {
			t.Errorf("Type(%v, %v): %v %v, the model: %v %v", s, p, got, found, model, there)
		}
	}
	enum := api.Schema{Kind: api.Enum, Words: []string{"a", "red"}}
	s := recordOf([]string{"a", "b", "c"}, listOf(recordOf([]string{"x"}, of(api.Text))), of(api.Int), enum)
	check(s, nil, s, true)
	check(s, steps("a"), s.Parts[0], true)
	check(s, steps("a", 1), s.Parts[0].Parts[0], true)
	check(s, steps("a", uint64(math.MaxUint64)), s.Parts[0].Parts[0], true)
	check(s, steps("a", 5, "x"), of(api.Text), true)
	check(s, steps("b"), of(api.Int), true)
	check(s, steps("c"), enum, true)
	check(of(api.Bool), nil, of(api.Bool), true)
	check(api.Schema{}, nil, api.Schema{}, true)
	for _, p := range [][]api.Step{
		steps("d"), steps("x"), steps(1), steps(0), steps(""), steps("A"), steps("a", 0), steps("a", "x"), steps("a", 1, "y"), steps("a", 1, 1), steps("a", 1, "x", "x"),
		steps("b", "b"), steps("b", 1), steps("c", "a"), steps("c", "red"), steps("c", 1), steps("d", 1),
	} {
		check(s, p, api.Schema{}, false)
	}
	// Of schemas and paths that aren't right.
	check(listOf(), steps(1), api.Schema{}, false)
	check(listOf(of(api.Int), of(api.Text)), steps(2), of(api.Int), true)
	check(listOf(api.Schema{Kind: 8}), steps(2), api.Schema{Kind: 8}, true)
	check(listOf(of(api.Int)), steps(api.Step{Name: "a", Id: 1}), api.Schema{}, false)
	check(api.Schema{Kind: api.List, Words: []string{"a"}, Parts: []api.Schema{of(api.Int)}}, steps("a"), api.Schema{}, false)
	check(api.Schema{Kind: api.List, Words: []string{"a"}, Parts: []api.Schema{of(api.Int)}}, steps(1), of(api.Int), true)
	check(recordOf([]string{"a", "a"}, of(api.Int), of(api.Text)), steps("a"), of(api.Int), true)
	check(recordOf([]string{"a", "b"}, of(api.Int)), steps("a"), api.Schema{}, false)
	check(recordOf([]string{"a"}, of(api.Int), of(api.Text)), steps("a"), of(api.Int), true)
	check(recordOf([]string{"a"}, of(api.Int)), steps(1), api.Schema{}, false)
	check(recordOf([]string{"A b", ""}, of(api.Int), of(api.Bool)), steps("A b"), of(api.Int), true)
	check(recordOf([]string{"A b", ""}, of(api.Int), of(api.Bool)), steps(""), api.Schema{}, false)
	check(recordOf([]string{"a"}, of(api.Int)), steps(api.Step{Name: "a", Id: 9}), of(api.Int), true)
	for _, kind := range []int{-1, 0, 1, 2, 3, 4, 7} {
		odd := api.Schema{Kind: kind, Words: []string{"a"}, Parts: []api.Schema{of(api.Int)}}
		check(odd, steps("a"), api.Schema{}, false)
		check(odd, steps(1), api.Schema{}, false)
		check(odd, nil, odd, true)
	}
	r := chance()
	count := 0
	for range 20000 {
		u, p := someSchema(r, 5), somePath(r, 3)
		want, ok := wantType(u, p)
		check(u, p, want, ok)
		if ok && len(p) > 0 {
			count++
		}
	}
	if count < 1000 {
		t.Error("types there:", count)
	}
}

// TestTypeFits: P10.1: what stands in a value that fits fits the type there.
func TestTypeFits(t *testing.T) {
	s := recordOf([]string{"a", "b"}, listOf(recordOf([]string{"x"}, of(api.Int))), of(api.Int))
	v := record([]string{"a", "b"}, list([]uint64{4, 2}, record([]string{"x"}, num(1)), record([]string{"x"}, num(2))), num(3))
	for _, p := range All(v) {
		x, _ := Get(v, p...)
		if u, ok := Type(s, p...); !ok || !schema.Fits(x, u) {
			t.Errorf("at %v: %v, %v", p, x, u)
		}
	}
}

// TestTypeOwn: Type changes nothing, and shares nothing.
func TestTypeOwn(t *testing.T) {
	enum := api.Schema{Kind: api.Enum, Words: []string{"a", "b"}}
	s := recordOf([]string{"a"}, listOf(recordOf([]string{"x"}, enum)))
	want := schema.Copy(s)
	for _, p := range [][]api.Step{nil, steps("a"), steps("a", 1), steps("a", 1, "x")} {
		u, _ := Type(s, p...)
		for x := &u; ; x = &x.Parts[0] {
			x.Kind = 9
			for i := range x.Words {
				x.Words[i] = "z"
			}
			if len(x.Parts) == 0 {
				break
			}
		}
		if !schema.Same(s, want) {
			t.Fatalf("Type at %v shares: %v", p, s)
		}
	}
	p := spare(steps("a", 1))
	if Type(s, p...); !slices.Equal(p[:cap(p)], spare(steps("a", 1))[:cap(p)]) {
		t.Error("the path has changed:", p)
	}
}

// TestDeep: every call ends, of a value, or schema, however deep it is, and of any number of steps.
func TestDeep(t *testing.T) {
	const n = 1000000
	v, s := inLists(num(5), n), of(api.Int)
	for range n {
		s = listOf(s)
	}
	p := slices.Repeat(steps(1), n)
	x, ok := Get(v, p...)
	u, typed := Type(s, p...)
	if !ok || !typed || x.N != 5 || u.Kind != api.Int || len(All(v)) != 0 || Right(p) || !Begins(p, p) {
		t.Error("deep:", x, ok, u, typed)
	}
	if w, ok := Put(v, num(6), p...); !ok || value.Same(w, v) || value.Depth(w) != n+1 {
		t.Error("deep: Put", ok)
	}
	if w, ok := Put(v, v, p...); !ok || value.Depth(w) != 2*n+1 {
		t.Error("deep: Put of itself", ok)
	}
	if _, ok := Get(v, append(p, p[0])...); ok {
		t.Error("deep: Get of none")
	}
}

// TestRings: every call ends, also of values and schemas that lie within themselves.
func TestRings(t *testing.T) {
	v, s := inLists(num(1), 1), listOf(of(api.Int))
	v.Parts[0], s.Parts[0] = v, s
	for n := range 40 {
		p := slices.Repeat(steps(1), n)
		Get(v, p...)
		Put(v, v, p...)
		Put(num(1), v, p...)
		Type(s, p...)
		if _, ok := Get(v, append(p, api.Step{Id: 2})...); ok || len(All(v)) > 0 {
			t.Error("ring:", n)
		}
	}
}
