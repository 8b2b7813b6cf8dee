package op

import (
	"slices"

	"dioptre/api"
	"dioptre/place"
	"dioptre/schema"
	"dioptre/value"
)

// Apply is what operations make of a value. (What fits the schema goes on to do so: it is asked once.)
func Apply(s api.Schema, v api.Value, l ...api.Op) api.Value {
	v = value.Copy(v)
	if !schema.Fits(v, s) {
		return v
	}
	for _, o := range l {
		if Right(o) && fits(o, s) {
			place.At(&v, o.Path, place.Part, func(there *api.Value) { change(there, o) })
		}
	}
	return v
}

// change does an operation to what stands at its path.
func change(there *api.Value, o api.Op) {
	i, found := value.Elem(*there, o.Id)
	switch o.Kind {
	case api.Set:
		*there = value.Copy(o.Value)
	case api.Insert:
		if !found && len(there.Ids) < api.MaxItems {
			comeIn(there, o, value.Copy(o.Value))
		}
	case api.Delete:
		if found {
			goOut(there, i)
		}
	case api.Move:
		if found {
			comeIn(there, o, goOut(there, i))
		}
	}
}

// comeIn lays an operation's element into a list, with that part.
func comeIn(list *api.Value, o api.Op, part api.Value) {
	i := 0
	if o.After != 0 {
		i = behind(*list, o.After)
	}
	list.Ids, list.Parts = slices.Insert(list.Ids, i, o.Id), slices.Insert(list.Parts, i, part)
}

// behind is the place behind an element; behind all, if there is no such element.
func behind(list api.Value, id uint64) int {
	i, found := value.Elem(list, id)
	if !found {
		return len(list.Ids)
	}
	return i + 1
}

// goOut takes an element out of a list, and tells its part.
func goOut(list *api.Value, i int) api.Value {
	part := list.Parts[i]
	list.Ids, list.Parts = slices.Delete(list.Ids, i, i+1), slices.Delete(list.Parts, i, i+1)
	return part
}
