package restore

import (
	"dioptre/api"
	"dioptre/schema"
	"dioptre/value"
)

// way is how one goes: by a lens, to its target. A new list's element has the seed as its number.
type way struct {
	by   api.Lens
	to   api.Schema
	seed uint64
}

// within is how one goes by the inner lens, to that target.
func (w way) within(to api.Schema) way {
	return way{by: w.by.Inner[0], to: to, seed: w.seed}
}

// forward is where one comes to from a, b being there. (That related documents stay as they are needn't be asked: what a doesn't tell is b's.)
func (w way) forward(a, b api.Value) api.Value {
	l := w.by
	switch l.Kind {
	case api.Rename:
		return value.With(value.Without(a, l.A), l.B, field(a, l.A))
	case api.Add:
		return value.With(a, l.A, field(b, l.A))
	case api.Remove:
		return value.Without(a, l.A)
	case api.Hoist:
		rest := change(a, l.A, func(x api.Value) api.Value { return value.Without(x, l.B) })
		return value.With(rest, l.B, field(field(a, l.A), l.B))
	case api.Plunge:
		return change(value.Without(a, l.B), l.A, func(x api.Value) api.Value { return value.With(x, l.B, field(a, l.B)) })
	}
	t, _ := schema.Field(w.to, l.A)
	return change(a, l.A, func(x api.Value) api.Value { return w.become(t, x, field(b, l.A)) })
}

// field is a field's part, of a record that has it.
func field(v api.Value, name string) api.Value {
	x, _ := value.Field(v, name)
	return x
}

// change is a record whose field is what the function that is handed on makes of it, which may change what it is handed.
func change(v api.Value, name string, made func(x api.Value) api.Value) api.Value {
	return value.With(v, name, made(field(v, name)))
}

// become is what the field of a lens that leaves it in its place becomes, of the type t, y being there. It may change x and y.
func (w way) become(t api.Schema, x, y api.Value) api.Value {
	switch w.by.Kind {
	case api.Wrap:
		return w.wrapped(t.Parts[0], x, y)
	case api.Head:
		return head(t, x)
	case api.Convert:
		return converted(w.by, x, y)
	case api.In:
		return w.within(t).forward(x, y)
	}
	return w.within(t.Parts[0]).each(x, y)
}

// head is the head of a list whose elements are of that type.
func head(t api.Schema, list api.Value) api.Value {
	if len(list.Parts) == 0 {
		return schema.Default(t)
	}
	return list.Parts[0]
}

// wrapped is the list whose head is x, a part of the type t.
func (w way) wrapped(t api.Schema, x, list api.Value) api.Value {
	if value.Same(head(t, list), x) {
		return list
	}
	if len(list.Ids) == 0 {
		return api.Value{Kind: api.List, Ids: []uint64{max(w.seed, 1)}, Parts: []api.Value{x}}
	}
	list.Parts[0] = x
	return list
}

// converted is what a part becomes by a Convert, y being there.
func converted(l api.Lens, x, y api.Value) api.Value {
	if value.Same(stands(y, l.Pairs, l.Back, func(p api.Pair) (api.Value, api.Value) { return p.Y, p.X }), x) {
		return y
	}
	return stands(x, l.Pairs, l.Base, func(p api.Pair) (api.Value, api.Value) { return p.X, p.Y })
}

// stands is what stands for a part in the first pair of which it is the one half, as the function that is handed on tells halves; rest, if there is no such pair.
func stands(x api.Value, pairs []api.Pair, rest api.Value, halves func(p api.Pair) (one, other api.Value)) api.Value {
	for _, p := range pairs {
		if one, other := halves(p); value.Same(one, x) {
			return other
		}
	}
	return rest
}

// each is where one comes to from each element of a list, one of the same number being there.
func (w way) each(list, there api.Value) api.Value {
	for i, id := range list.Ids {
		list.Parts[i] = w.forward(list.Parts[i], w.beside(there, id))
	}
	return list
}

// beside is a list's element of that number, or, if there is none, the first one.
func (w way) beside(list api.Value, id uint64) api.Value {
	if i, ok := value.Elem(list, id); ok {
		return list.Parts[i]
	}
	return first(w.by, w.to)
}
