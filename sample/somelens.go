package sample

import (
	"slices"

	"dioptre/api"
)

// SomeLens is a right lens, at most so deep, that mostly goes on a record's schema. (It doesn't, where the target has too many fields or lies too deep.)
func SomeLens(pick func(n int) int, s api.Schema, deep int) api.Lens {
	kind := 0
	for try := range 60 {
		// Some kinds go on few fields: each gets some tries.
		if try%10 == 0 {
			kind = 1 + pick(10)
		}
		if len(s.Words) == 0 {
			break
		}
		i := pick(len(s.Words))
		l := api.Lens{Kind: kind, A: s.Words[i]}
		if complete(pick, &l, s, s.Parts[i], deep) {
			return l
		}
	}
	return someAdd(pick, s)
}

// complete lays what a lens of that kind has beside the name of its field, which is x; false, if there can't be one.
func complete(pick func(n int) int, l *api.Lens, s, x api.Schema, deep int) bool {
	switch l.Kind {
	case api.Rename:
		l.B = newName(pick, s)
	case api.Add:
		*l = someAdd(pick, s)
	case api.Remove:
		l.Type, l.Base = PlainSchema(x), SomeFit(pick, x)
	case api.Hoist:
		l.B = apart(pick, x, s)
		return l.B != "" && l.B != l.A
	case api.Plunge:
		l.B = apart(pick, s, x)
		return x.Kind == api.Record && l.B != "" && l.B != l.A
	case api.Head:
		return x.Kind == api.List
	case api.Convert:
		return convert(pick, l, x)
	case api.In:
		return into(pick, l, x, deep)
	case api.Map:
		return x.Kind == api.List && into(pick, l, x.Parts[0], deep)
	}
	return true
}

// someAdd is an Add.
func someAdd(pick func(n int) int, s api.Schema) api.Lens {
	l := api.Lens{Kind: api.Add, A: newName(pick, s), Type: SomeSchema(pick, 1+pick(3))}
	l.Base = SomeFit(pick, l.Type)
	return l
}

// newName is a name that isn't in a schema.
func newName(pick func(n int) int, s api.Schema) string {
	for {
		if name := "_abcdefghi"[pick(10):][:1]; !slices.Contains(s.Words, name) {
			return name
		}
	}
}

// apart is a name that stands in the one record, but not in the other one; empty, if there is none.
func apart(pick func(n int) int, in, notIn api.Schema) string {
	var names []string
	for _, name := range in.Words {
		if in.Kind == api.Record && !slices.Contains(notIn.Words, name) {
			names = append(names, name)
		}
	}
	if len(names) == 0 {
		return ""
	}
	return names[pick(len(names))]
}

// convert lays what a Convert of a field has; false, if that has parts.
func convert(pick func(n int) int, l *api.Lens, x api.Schema) bool {
	if x.Kind < api.Bool || x.Kind > api.Enum {
		return false
	}
	l.Type = SomeSchema(pick, 1)
	l.Base, l.Back = SomeFit(pick, l.Type), SomeFit(pick, x)
	for range pick(api.MaxPairs + 1) {
		l.Pairs = append(l.Pairs, api.Pair{X: SomeFit(pick, x), Y: SomeFit(pick, l.Type)})
	}
	return true
}

// into lays an inner lens; false, if that would lie too deep, or would go on no record.
func into(pick func(n int) int, l *api.Lens, x api.Schema, deep int) bool {
	if deep < 2 || x.Kind != api.Record {
		return false
	}
	l.Inner = []api.Lens{SomeLens(pick, x, deep-1)}
	return true
}
