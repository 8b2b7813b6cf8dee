package path

import (
	"math"
	"slices"
	"strings"
	"testing"

	"dioptre/api"
	"dioptre/value"
)

// TestRight: P10.1: at most eight steps, each with a name and 0, or without one and not 0.
func TestRight(t *testing.T) {
	eight := steps("a", 1, "b", 2, "c", 3, "d", 4)
	for _, c := range []struct {
		name string
		p    []api.Step
		want bool
	}{
		{"none", nil, true},
		{"none, not nil", []api.Step{}, true},
		{"a name", steps("a"), true},
		{"a name of 12", steps("abcdefgh_012"), true},
		{"a name of 13", steps("abcdefgh_0123"), false},
		{"a great letter", steps("A"), false},
		{"a blank", steps("a b"), false},
		{"a blank alone", steps(" "), false},
		{"a slash", steps("a/b"), false},
		{"a byte above", steps("\xe4"), false},
		{"a number", steps(1), true},
		{"the greatest number", steps(uint64(math.MaxUint64)), true},
		{"0", steps(0), false},
		{"a name and a number", steps(api.Step{Name: "a", Id: 1}), false},
		{"a name and the greatest number", steps(api.Step{Name: "a", Id: math.MaxUint64}), false},
		{"no name and a number", steps(api.Step{Name: "A", Id: 1}), false},
		{"eight", eight, true},
		{"eight, the last one wrong", append(slices.Clone(eight[:7]), api.Step{}), false},
		{"eight, the first one wrong", append(steps(0), eight[:7]...), false},
		{"nine", append(slices.Clone(eight), eight[0]), false},
		{"nine numbers", append(slices.Clone(eight), eight[1]), false},
		{"wrong between", steps("a", 0, "b"), false},
		{"wrong at the end", steps("a", 1, ""), false},
	} {
		if Right(c.p) != c.want || wantRight(c.p) != c.want {
			t.Errorf("%s: %v, the model: %v", c.name, Right(c.p), wantRight(c.p))
		}
	}
	for n := range 30 {
		if Right(make([]api.Step, n)) != (n == 0) || Right(slices.Repeat(steps("a"), n)) != (n < 9) || Right(steps(strings.Repeat("a", n))) != (n > 0 && n < 13) {
			t.Error("Right of", n)
		}
	}
	r := chance()
	for range 5000 {
		if p := somePath(r, 9); Right(p) != wantRight(p) {
			t.Errorf("Right of %v: %v", p, Right(p))
		}
	}
}

// TestBegins: P10.2: whether the one's first steps are just the other's.
func TestBegins(t *testing.T) {
	for _, c := range []struct {
		p, q []api.Step
		want bool
	}{
		{nil, nil, true},
		{nil, []api.Step{}, true},
		{nil, steps("a", 1), true},
		{steps("a"), nil, false},
		{steps("a"), steps("a"), true},
		{steps("a"), steps("a", 1), true},
		{steps("a", 1), steps("a"), false},
		{steps("a", 1), steps("a", 1, "b"), true},
		{steps("a", 2), steps("a", 1, "b"), false},
		{steps("b", 1), steps("a", 1, "b"), false},
		{steps(1), steps("a", 1), false},
		{steps("b"), steps("a", 1, "b"), false},
		{steps("a"), steps("aa"), false},
		{steps(1), steps("1"), false},
		{steps(api.Step{Name: "a", Id: 1}), steps("a"), false},
		{steps(api.Step{Name: "a", Id: 1}), steps(api.Step{Name: "a", Id: 1}, 5), true},
		{steps(0), steps(0, 0), true},
		{slices.Repeat(steps("a"), 20), slices.Repeat(steps("a"), 21), true},
		{slices.Repeat(steps("a"), 21), slices.Repeat(steps("a"), 20), false},
	} {
		if Begins(c.p, c.q) != c.want {
			t.Errorf("Begins(%v, %v): %v", c.p, c.q, !c.want)
		}
	}
	// What stands in spare room isn't there.
	if p := steps("a", 1); Begins(p, p[:1]) {
		t.Error("Begins: spare room is read")
	}
}

// TestAll: P10.2: of a right value the paths of all its parts, itself first, each part's ones behind its own, in order.
func TestAll(t *testing.T) {
	for _, c := range []struct {
		v    api.Value
		want [][]api.Step
	}{
		{num(5), [][]api.Step{nil}},
		{record(nil), [][]api.Step{nil}},
		{list(nil), [][]api.Step{nil}},
		{record([]string{"a", "b"}, num(1), num(2)), [][]api.Step{nil, steps("a"), steps("b")}},
		{list([]uint64{9, 2, math.MaxUint64}, num(1), num(2), num(3)), [][]api.Step{nil, steps(9), steps(2), steps(uint64(math.MaxUint64))}},
		{
			record([]string{"a", "b", "c"}, list([]uint64{7, 3}, record([]string{"x"}, num(1)), num(2)), list(nil), record([]string{"a"}, num(3))),
			[][]api.Step{nil, steps("a"), steps("a", 7), steps("a", 7, "x"), steps("a", 3), steps("b"), steps("c"), steps("c", "a")},
		},
		{inLists(num(5), 4), [][]api.Step{nil, steps(1), steps(1, 1), steps(1, 1, 1), steps(1, 1, 1, 1)}},
	} {
		if got := All(c.v); !samePaths(got, c.want) {
			t.Errorf("All of %v: %v", c.v, got)
		}
	}
	for _, v := range []api.Value{
		{}, {Kind: 7}, {Kind: api.Bool, N: 2}, {Kind: api.Int, S: "a"}, inLists(num(1), 5), record([]string{"b", "a"}, num(1), num(2)),
		record([]string{"a"}), record(nil, num(1)), list([]uint64{1}), list([]uint64{1, 1}, num(1), num(2)), list([]uint64{0}, num(1)),
		record([]string{"a", "b"}, num(1), api.Value{}), list([]uint64{1}, record([]string{"A"}, num(1))),
		{Kind: api.List, Names: []string{"a"}, Parts: []api.Value{num(1)}},
	} {
		if got := All(v); len(got) > 0 {
			t.Errorf("All of %v, which isn't right: %v", v, got)
		}
	}
}

// TestAllAny: P10.2: any values; each path is right, and leads to that part.
func TestAllAny(t *testing.T) {
	r := chance()
	for range 3000 {
		v := someValue(r, 5)
		if r.IntN(4) == 0 {
			spoil(r, &v)
		}
		var want [][]api.Step
		if value.Right(v) {
			want = wantAll(v)
		}
		l := All(v)
		if !samePaths(l, want) {
			t.Fatalf("All of %v: %v, not %v", v, l, want)
		}
		for _, p := range l {
			if _, ok := Get(v, p...); !ok || !Right(p) {
				t.Errorf("All of %v: %v leads nowhere, or isn't right", v, p)
			}
		}
	}
}

// TestAllOwn: P10.2: each path is a list of its own, and nothing is shared with the value.
func TestAllOwn(t *testing.T) {
	v := list([]uint64{3, 4}, record([]string{"a", "b", "c"}, num(1), inLists(num(2), 2), num(3)), num(4))
	l, want := All(v), wantAll(v)
	for i, p := range l {
		p = p[:cap(p)]
		for k := range p {
			p[k] = api.Step{Name: "scrambled", Id: 7}
		}
		if !samePaths(l[i+1:], want[i+1:]) {
			t.Fatal("two paths share:", l)
		}
	}
	if !samePaths(All(v), want) {
		t.Error("what was told is kept")
	}
	checkOwn(t, "All", v, num(1), nil, func(v, _ api.Value, _ []api.Step) api.Value { return num(len(All(v))) })
}

// TestAllMany: P10.2: of a value with as many parts as it may have.
func TestAllMany(t *testing.T) {
	v := num(1)
	for range 4 {
		x := list(nil)
		for i := range 12 {
			x.Ids, x.Parts = append(x.Ids, uint64(i+1)), append(x.Parts, v)
		}
		v = x
	}
	l := All(v)
	if len(l) != 22621 || !slices.Equal(l[len(l)-1], steps(12, 12, 12, 12)) || !slices.Equal(l[1], steps(1)) || !slices.Equal(l[1886], steps(2)) {
		t.Error("All of many:", len(l))
	}
}
