package sample

import (
	"slices"

	"dioptre/api"
)

// change is the same lens, all parts of which were handed to these functions.
func change(l api.Lens, s func(api.Schema) api.Schema, v func(api.Value) api.Value, in func(api.Lens) api.Lens) api.Lens {
	l.Type, l.Base, l.Back = s(l.Type), v(l.Base), v(l.Back)
	pairs, inner := l.Pairs, l.Inner
	l.Pairs, l.Inner = nil, nil
	for _, p := range pairs {
		l.Pairs = append(l.Pairs, api.Pair{X: v(p.X), Y: v(p.Y)})
	}
	for _, x := range inner {
		l.Inner = append(l.Inner, in(x))
	}
	return l
}

// PlainLens is the same lens, all lists of which are its own; those without elements are none.
func PlainLens(l api.Lens) api.Lens { return change(l, PlainSchema, Plain, PlainLens) }

// RoomyLens is the same lens, whose lists have spare room in which something stands.
func RoomyLens(l api.Lens) api.Lens {
	l = change(l, RoomySchema, Roomy, RoomyLens)
	l.Pairs = append(slices.Clone(l.Pairs), api.Pair{X: Num(98), Y: Num(99)})[:len(l.Pairs)]
	l.Inner = append(slices.Clone(l.Inner), api.Lens{Kind: api.Wrap, A: "spare"})[:len(l.Inner)]
	return l
}

// WholeLens is a copy of a lens with its spare room.
func WholeLens(l api.Lens) api.Lens {
	l.Pairs, l.Inner = l.Pairs[:cap(l.Pairs)], l.Inner[:cap(l.Inner)]
	return change(l, WholeSchema, Whole, WholeLens)
}

// ScrambleLens overwrites all that a lens's lists hold, their spare room, too.
func ScrambleLens(l api.Lens) {
	ScrambleSchema(l.Type)
	Scramble(l.Base)
	Scramble(l.Back)
	for i, p := range l.Pairs[:cap(l.Pairs)] {
		Scramble(p.X)
		Scramble(p.Y)
		l.Pairs[:cap(l.Pairs)][i] = api.Pair{X: Num(77), Y: Num(77)}
	}
	for i, x := range l.Inner[:cap(l.Inner)] {
		ScrambleLens(x)
		l.Inner[:cap(l.Inner)][i] = api.Lens{Kind: api.Head, A: "scrambled"}
	}
}
