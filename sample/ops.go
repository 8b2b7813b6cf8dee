package sample

import (
	"slices"

	"dioptre/api"
)

// Set is an operation by which a value stands at a path.
func Set(p []api.Step, x api.Value) api.Op { return api.Op{Kind: api.Set, Path: p, Value: x} }

// Insert is an operation by which an element comes into a list, behind another one.
func Insert(p []api.Step, id, after uint64, x api.Value) api.Op {
	return api.Op{Kind: api.Insert, Path: p, Id: id, After: after, Value: x}
}

// Delete is an operation by which an element goes.
func Delete(p []api.Step, id uint64) api.Op { return api.Op{Kind: api.Delete, Path: p, Id: id} }

// Move is an operation by which an element goes, and comes in again behind another one.
func Move(p []api.Step, id, after uint64) api.Op {
	return api.Op{Kind: api.Move, Path: p, Id: id, After: after}
}

// SpoilOp changes something in an operation: mostly it isn't right then.
func SpoilOp(pick func(n int) int, o *api.Op) {
	values := []api.Value{{}, Num(1), {N: 1}, {S: "a"}, {Kind: 7}, Truth(2), List(nil), {Ids: []uint64{1}}, {Names: []string{"a"}}, {Parts: []api.Value{{}}}}
	switch pick(6) {
	case 0:
		o.Kind = pick(8) - 2
	case 1:
		o.Id = uint64(pick(2)) * SomeId(pick)
	case 2:
		o.After = uint64(pick(2)) * SomeId(pick)
	case 3:
		o.After = o.Id
	case 4:
		o.Value = values[pick(len(values))]
	default:
		wrong := []api.Step{{}, {Name: "A"}, {Name: "a", Id: 1}, {Name: "abcdefghijklm"}}[pick(4)]
		o.Path = slices.Insert(slices.Clone(o.Path), pick(len(o.Path)+1), wrong)
	}
}
