package sample

import "dioptre/api"

// Rename is a lens by which a field has another name.
func Rename(a, b string) api.Lens { return api.Lens{Kind: api.Rename, A: a, B: b} }

// Add is a lens by which a field comes.
func Add(a string, s api.Schema, v api.Value) api.Lens {
	return api.Lens{Kind: api.Add, A: a, Type: s, Base: v}
}

// Remove is a lens by which a field goes.
func Remove(a string, s api.Schema, v api.Value) api.Lens {
	return api.Lens{Kind: api.Remove, A: a, Type: s, Base: v}
}

// Hoist is a lens by which the field b comes out of the record a.
func Hoist(a, b string) api.Lens { return api.Lens{Kind: api.Hoist, A: a, B: b} }

// Plunge is a lens by which the field b comes into the record a.
func Plunge(a, b string) api.Lens { return api.Lens{Kind: api.Plunge, A: a, B: b} }

// Wrap is a lens by which a field is put into a list.
func Wrap(a string) api.Lens { return api.Lens{Kind: api.Wrap, A: a} }

// Head is a lens by which a field is taken out of a list.
func Head(a string) api.Lens { return api.Lens{Kind: api.Head, A: a} }

// Convert is a lens by which a field has another type.
func Convert(a string, s api.Schema, base, back api.Value, pairs ...api.Pair) api.Lens {
	return api.Lens{Kind: api.Convert, A: a, Type: s, Base: base, Back: back, Pairs: pairs}
}

// In is a lens that changes a record within, by the inner one; right, if that is just one.
func In(a string, l ...api.Lens) api.Lens { return api.Lens{Kind: api.In, A: a, Inner: l} }

// Map is a lens that changes each element of a list of records, likewise.
func Map(a string, l ...api.Lens) api.Lens { return api.Lens{Kind: api.Map, A: a, Inner: l} }

// Within is a lens within so many others.
func Within(l api.Lens, n int) api.Lens {
	for i := range n {
		l = api.Lens{Kind: api.In + i%2, A: "a", Inner: []api.Lens{l}}
	}
	return l
}

// SpoilLens changes something in a lens, itself or one within: mostly it isn't right then, or goes on another schema.
func SpoilLens(pick func(n int) int, l *api.Lens) {
	if len(l.Inner) > 0 && pick(3) > 0 {
		SpoilLens(pick, &l.Inner[pick(len(l.Inner))])
		return
	}
	values := []api.Value{{}, Num(1), Truth(1), {N: 1}, {S: "a"}, Word("a"), Text(""), Record(nil), List(nil), Truth(2), {Kind: 7}, {Ids: []uint64{1}}}
	schemas := []api.Schema{{}, Of(api.Int), Of(api.Bool), Of(api.Enum, "b", "a"), Of(api.Enum), ListOf(Of(api.Int)), RecordOf(nil), {Kind: 7}, {Words: []string{"a"}}, Of(api.Text, "a")}
	names := []string{"", "A", "abcdefghijklm", l.A, l.B, SomeName(pick)}
	some := func() api.Value { return values[pick(len(values))] }
	switch pick(11) {
	case 0:
		l.Kind = pick(14) - 2
	case 1:
		l.A = names[pick(len(names))]
	case 2:
		l.B = names[pick(len(names))]
	case 3:
		l.Type = schemas[pick(len(schemas))]
	case 4:
		l.Base = some()
	case 5:
		l.Back = some()
	case 6:
		l.Pairs = append(l.Pairs, api.Pair{X: some(), Y: some()})
	case 7:
		l.Pairs = append(l.Pairs, l.Pairs[len(l.Pairs)/2:]...)
	case 8:
		l.Inner = append(l.Inner, Wrap("a"))
	case 9:
		l.Inner = nil
	default:
		*l = Within(*l, 1+pick(4))
	}
}
