package place

import (
	"slices"
	"testing"

	"dioptre/api"
)

func num(n int) api.Value { return api.Value{Kind: api.Int, N: n} }

// named and numbered are steps of a name, and of a number.
func named(name string) api.Step  { return api.Step{Name: name} }
func numbered(id uint64) api.Step { return api.Step{Id: id} }

// TestPart: where a step leads from a value: to the part itself, or nowhere.
func TestPart(t *testing.T) {
	r := api.Value{Kind: api.Record, Names: []string{"b", "a", "b"}, Parts: []api.Value{num(1), num(2), num(3)}}
	l := api.Value{Kind: api.List, Ids: []uint64{4, 0, 9, 4, 5}, Parts: []api.Value{num(1), num(2), num(3), num(4)}}
	few := api.Value{Kind: api.Record, Names: []string{"a", "b"}, Parts: []api.Value{num(1)}}
	none := api.Value{Kind: api.Int, Names: []string{"a"}, Ids: []uint64{4}, Parts: []api.Value{num(1)}}
	above := api.Value{Kind: 7, Names: []string{"a"}, Ids: []uint64{4}, Parts: []api.Value{num(1)}}
	odd := api.Value{Kind: api.Record, Names: []string{"", "~A"}, Ids: []uint64{4}, Parts: []api.Value{num(1), num(2)}}
	short := api.Value{Kind: api.List, Ids: []uint64{4, 5, 6}, Parts: []api.Value{num(1)}}
	for _, c := range []struct {
		v    *api.Value
		s    api.Step
		want int
	}{
		{&r, named("b"), 0}, {&r, named("a"), 1}, {&r, named("c"), -1}, {&r, api.Step{Name: "a", Id: 4}, 1}, {&r, api.Step{}, -1}, {&r, numbered(4), -1},
		{&l, numbered(4), 0}, {&l, numbered(0), 1}, {&l, numbered(9), 2}, {&l, numbered(5), -1}, {&l, numbered(7), -1}, {&l, named("b"), -1}, {&l, api.Step{Name: "b", Id: 4}, -1},
		{&few, named("a"), -1}, {&few, named("b"), -1}, {&none, named("a"), -1}, {&none, numbered(4), -1},
		{&above, named("a"), -1}, {&above, numbered(4), -1}, {&odd, api.Step{}, -1}, {&odd, named("~A"), 1}, {&odd, numbered(4), -1},
		{&short, numbered(4), 0}, {&short, numbered(5), -1}, {&short, numbered(6), -1},
	} {
		got := Part(c.v, c.s)
		if c.want < 0 && got != nil || c.want >= 0 && got != &c.v.Parts[c.want] {
			t.Errorf("Part(%v, %v): not %d", c.v, c.s, c.want)
		}
	}
}

// TestType: where a step leads from a schema: to the part itself, or nowhere.
func TestType(t *testing.T) {
	parts := []api.Schema{{Kind: api.Int}, {Kind: api.Bool}}
	r := api.Schema{Kind: api.Record, Words: []string{"a", "b"}, Parts: parts}
	l := api.Schema{Kind: api.List, Words: []string{"a"}, Parts: parts}
	few := api.Schema{Kind: api.Record, Words: []string{"a", "b"}, Parts: parts[:1]}
	none := api.Schema{Kind: api.Enum, Words: []string{"a", "b"}, Parts: parts}
	empty := api.Schema{Kind: api.List}
	one := api.Schema{Kind: api.List, Parts: parts[:1]}
	above := api.Schema{Kind: 7, Words: []string{"a", "b"}, Parts: parts}
	odd := api.Schema{Kind: api.Record, Words: []string{"", "~A"}, Parts: parts}
	for _, c := range []struct {
		s    *api.Schema
		step api.Step
		want int
	}{
		{&r, named("a"), 0}, {&r, named("b"), 1}, {&r, named("c"), -1}, {&r, api.Step{Name: "b", Id: 4}, 1}, {&r, api.Step{}, -1}, {&r, numbered(4), -1},
		{&l, numbered(4), 0}, {&l, numbered(0), -1}, {&l, named("a"), -1}, {&l, api.Step{Name: "a", Id: 4}, -1},
		{&few, named("a"), -1}, {&none, named("a"), -1}, {&none, numbered(4), -1}, {&empty, numbered(4), -1}, {&one, numbered(4), 0},
		{&above, named("a"), -1}, {&above, numbered(4), -1}, {&odd, api.Step{}, -1}, {&odd, numbered(4), -1}, {&odd, named("~A"), 1},
	} {
		got := Type(c.s, c.step)
		if c.want < 0 && got != nil || c.want >= 0 && got != &c.s.Parts[c.want] {
			t.Errorf("Type(%v, %v): not %d", c.s, c.step, c.want)
		}
	}
}

// TestAt: what stands there is handed on itself, once; nothing, if a step leads nowhere.
func TestAt(t *testing.T) {
	inner := api.Value{Kind: api.List, Ids: []uint64{4, 5}, Parts: []api.Value{num(1), num(2)}}
	v := api.Value{Kind: api.Record, Names: []string{"a"}, Parts: []api.Value{inner}}
	for _, c := range []struct {
		p    []api.Step
		want *api.Value
	}{
		{nil, &v}, {[]api.Step{named("a")}, &v.Parts[0]}, {[]api.Step{named("a"), numbered(5)}, &v.Parts[0].Parts[1]},
		{[]api.Step{named("b")}, nil}, {[]api.Step{named("a"), numbered(6)}, nil}, {[]api.Step{named("b"), numbered(5)}, nil}, {[]api.Step{named("a"), numbered(5), numbered(5)}, nil},
	} {
		var got []*api.Value
		ok := At(&v, c.p, Part, func(there *api.Value) { got = append(got, there) })
		if ok != (c.want != nil) || len(got) > 1 || ok != slices.Contains(got, c.want) {
			t.Errorf("At %v: %v %v", c.p, got, ok)
		}
	}
	At(&v, []api.Step{named("a"), numbered(4)}, Part, func(there *api.Value) { there.N = 7 })
	if v.Parts[0].Parts[0].N != 7 {
		t.Error("what is handed on isn't what stands there:", v)
	}
}
