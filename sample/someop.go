package sample

import (
	"slices"

	"dioptre/api"
)

// SomeOp is an operation that is right, often fits a right schema, and mostly leads somewhere in a right value.
func SomeOp(pick func(n int) int, s api.Schema, v api.Value) api.Op {
	o := api.Op{Kind: 1 + pick(4), Path: somePath(pick, v)}
	if o.Kind == api.Set {
		o.Value = someNew(pick, typeAt(s, o.Path))
		return o
	}
	// Most lists stand deep: a few tries find one.
	for range 5 {
		if typeAt(s, o.Path).Kind != api.List {
			o.Path = somePath(pick, v)
		}
	}
	o.Id = SomeId(pick)
	if ids := idsAt(v, o.Path); len(ids) > 0 && o.Kind != api.Insert && pick(2) == 0 {
		o.Id = ids[pick(len(ids))]
	}
	if o.Kind != api.Delete && pick(4) > 0 {
		o.After = newId(pick, []uint64{o.Id})
	}
	if o.Kind == api.Insert {
		t := typeAt(s, append(o.Path[:len(o.Path):len(o.Path)], api.Step{Id: o.Id}))
		o.Value = someNew(pick, t)
	}
	return o
}

// someNew is a right value that mostly fits a schema, if that is one.
func someNew(pick func(n int) int, s api.Schema) api.Value {
	if s.Kind == api.None || pick(9) == 0 {
		return Num(7)
	}
	return SomeFit(pick, s)
}

// somePath is a right path that mostly leads somewhere in a right value.
func somePath(pick func(n int) int, v api.Value) []api.Step {
	all := paths(v)
	p := all[pick(len(all))]
	switch pick(12) {
	case 0:
		return append(p, api.Step{Name: SomeName(pick)})
	case 1:
		return append(p, api.Step{Id: SomeId(pick)})
	case 2:
		if len(p) > 0 {
			p[pick(len(p))] = []api.Step{{Name: "a"}, {Id: 3}, {Id: 99}}[pick(3)]
		}
	}
	return p
}

// paths are the paths of all parts of a right value, of that itself first.
func paths(v api.Value, here ...api.Step) [][]api.Step {
	l := [][]api.Step{slices.Clone(here)}
	for i, x := range v.Parts {
		var step api.Step
		if v.Kind == api.Record {
			step.Name = v.Names[i]
		} else {
			step.Id = v.Ids[i]
		}
		l = append(l, paths(x, append(slices.Clone(here), step)...)...)
	}
	return l
}

// typeAt is the type at a path of a right schema; zero, if there is none.
func typeAt(s api.Schema, p []api.Step) api.Schema {
	for _, step := range p {
		i := 0
		if step.Name != "" {
			i = slices.Index(s.Words, step.Name)
		}
		if (step.Name == "") != (s.Kind == api.List) || i < 0 || i >= len(s.Parts) {
			return api.Schema{}
		}
		s = s.Parts[i]
	}
	return s
}

// idsAt are the elements of the list that stands at a path of a right value; none, if there isn't one.
func idsAt(v api.Value, p []api.Step) []uint64 {
	for _, step := range p {
		i := slices.Index(v.Ids, step.Id)
		if step.Name != "" {
			i = slices.Index(v.Names, step.Name)
		}
		if i < 0 {
			return nil
		}
		v = v.Parts[i]
	}
	return v.Ids
}
