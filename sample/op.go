package sample

import "dioptre/api"

// PlainOp is the same operation, all lists of which are its own; those without elements are none.
func PlainOp(o api.Op) api.Op {
	o.Path, o.Value = append([]api.Step(nil), o.Path...), Plain(o.Value)
	return o
}

// RoomyOp is the same operation, whose lists have spare room in which something stands.
func RoomyOp(o api.Op) api.Op {
	o.Path, o.Value = RoomyPath(o.Path), Roomy(o.Value)
	return o
}

// WholeOp is a copy of an operation with its spare room.
func WholeOp(o api.Op) api.Op {
	o.Path, o.Value = append([]api.Step(nil), o.Path[:cap(o.Path)]...), Whole(o.Value)
	return o
}

// ScrambleOp overwrites all that an operation's lists hold, their spare room, too.
func ScrambleOp(o api.Op) {
	ScramblePath(o.Path)
	Scramble(o.Value)
}
