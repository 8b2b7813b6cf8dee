package sample

import (
	"slices"

	"dioptre/api"
)

// PlainEntry is the same entry, all lists of which are its own; those without elements are none.
func PlainEntry(e api.Entry) api.Entry {
	e.Parents, e.Op, e.Lens = append([]api.Hash(nil), e.Parents...), PlainOp(e.Op), PlainLens(e.Lens)
	return e
}

// RoomyEntry is the same entry, whose lists have spare room in which something stands.
func RoomyEntry(e api.Entry) api.Entry {
	e.Parents = append(slices.Clone(e.Parents), Hash(98, 0), Hash(99, 0))[:len(e.Parents)]
	e.Op, e.Lens = RoomyOp(e.Op), RoomyLens(e.Lens)
	return e
}

// WholeEntry is a copy of an entry with its spare room.
func WholeEntry(e api.Entry) api.Entry {
	e.Parents, e.Op, e.Lens = slices.Clone(e.Parents[:cap(e.Parents)]), WholeOp(e.Op), WholeLens(e.Lens)
	return e
}

// ScrambleEntry overwrites all that an entry's lists hold, their spare room, too.
func ScrambleEntry(e api.Entry) {
	ScrambleHashes(e.Parents)
	ScrambleOp(e.Op)
	ScrambleLens(e.Lens)
}
