package sample

import (
	"slices"

	"dioptre/api"
)

// Plain is the same value, all lists of which are its own; those without elements are none.
func Plain(v api.Value) api.Value {
	v.Names, v.Ids = append([]string(nil), v.Names...), append([]uint64(nil), v.Ids...)
	var l []api.Value
	for _, x := range v.Parts {
		l = append(l, Plain(x))
	}
	v.Parts = l
	return v
}

// Roomy is the same value, whose lists have spare room in which something stands.
func Roomy(v api.Value) api.Value {
	v.Names = append(slices.Clone(v.Names), "spare", "room")[:len(v.Names)]
	v.Ids = append(slices.Clone(v.Ids), 98, 99)[:len(v.Ids)]
	var l []api.Value
	for _, x := range v.Parts {
		l = append(l, Roomy(x))
	}
	v.Parts = append(l, Num(98), Num(99))[:len(l)]
	return v
}

// Whole is a copy of a value with its spare room.
func Whole(v api.Value) api.Value {
	v.Names, v.Ids = slices.Clone(v.Names[:cap(v.Names)]), slices.Clone(v.Ids[:cap(v.Ids)])
	var l []api.Value
	for _, x := range v.Parts[:cap(v.Parts)] {
		l = append(l, Whole(x))
	}
	v.Parts = l
	return v
}

// Scramble overwrites all that a value's lists hold, their spare room, too.
func Scramble(v api.Value) {
	for i := range v.Names[:cap(v.Names)] {
		v.Names[:cap(v.Names)][i] = "scrambled"
	}
	for i := range v.Ids[:cap(v.Ids)] {
		v.Ids[:cap(v.Ids)][i] = 77
	}
	for i, x := range v.Parts[:cap(v.Parts)] {
		Scramble(x)
		v.Parts[:cap(v.Parts)][i] = Num(77)
	}
}

// Apart tells whether no two of a value's parts share a list with each other, or with the value; it overwrites all that they hold.
func Apart(v api.Value) bool {
	kept := Plain(v)
	apart := true
	for i, x := range v.Parts {
		apart = Apart(x) && apart && slices.Equal(v.Names, kept.Names) && slices.Equal(v.Ids, kept.Ids) && slices.EqualFunc(v.Parts[i+1:], kept.Parts[i+1:], same)
	}
	Scramble(v)
	return apart
}

// same tells whether two values are the same; a list without elements is the same as none.
func same(v, w api.Value) bool {
	return v.Kind == w.Kind && v.N == w.N && v.S == w.S && slices.Equal(v.Names, w.Names) && slices.Equal(v.Ids, w.Ids) && slices.EqualFunc(v.Parts, w.Parts, same)
}

// RoomyPath is the same path, with spare room in which something stands.
func RoomyPath(p []api.Step) []api.Step {
	return append(slices.Clone(p), api.Step{Name: "spare"}, api.Step{Id: 99})[:len(p)]
}

// ScramblePath overwrites all steps, those in spare room, too.
func ScramblePath(p []api.Step) {
	for i := range p[:cap(p)] {
		p[:cap(p)][i] = api.Step{Name: "scrambled", Id: 7}
	}
}

// PlainSchema is the same schema, all lists of which are its own; those without elements are none.
func PlainSchema(s api.Schema) api.Schema {
	s.Words = append([]string(nil), s.Words...)
	var l []api.Schema
	for _, x := range s.Parts {
		l = append(l, PlainSchema(x))
	}
	s.Parts = l
	return s
}

// RoomySchema is the same schema, whose lists have spare room in which something stands.
func RoomySchema(s api.Schema) api.Schema {
	s.Words = append(slices.Clone(s.Words), "spare", "room")[:len(s.Words)]
	var l []api.Schema
	for _, x := range s.Parts {
		l = append(l, RoomySchema(x))
	}
	s.Parts = append(l, Of(98), Of(99))[:len(l)]
	return s
}

// WholeSchema is a copy of a schema with its spare room.
func WholeSchema(s api.Schema) api.Schema {
	s.Words = slices.Clone(s.Words[:cap(s.Words)])
	var l []api.Schema
	for _, x := range s.Parts[:cap(s.Parts)] {
		l = append(l, WholeSchema(x))
	}
	s.Parts = l
	return s
}

// ScrambleSchema overwrites all that a schema's lists hold, their spare room, too.
func ScrambleSchema(s api.Schema) {
	for i := range s.Words[:cap(s.Words)] {
		s.Words[:cap(s.Words)][i] = "scrambled"
	}
	for i, x := range s.Parts[:cap(s.Parts)] {
		ScrambleSchema(x)
		s.Parts[:cap(s.Parts)][i] = Of(77)
	}
}
