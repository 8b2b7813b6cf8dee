package lens

import (
	"slices"

	"dioptre/api"
	"dioptre/schema"
)

// Target is a lens's target.
func Target(l api.Lens, s api.Schema) (api.Schema, error) {
	if !Right(l) {
		return api.Schema{}, api.ErrArg
	}
	if !schema.Right(s) {
		return api.Schema{}, api.ErrLens
	}
	t, ok := target(l, s)
	// If the whole is right, each inner lens's target is.
	if !ok || !schema.Right(t) {
		return api.Schema{}, api.ErrLens
	}
	return t, nil
}

// target is what a right lens makes of a right schema, and whether its fields are as the lens asks; that it is right itself isn't asked.
func target(l api.Lens, s api.Schema) (api.Schema, bool) {
	if s.Kind != api.Record {
		return api.Schema{}, false
	}
	x, has := schema.Field(s, l.A)
	y, beside := schema.Field(s, l.B)
	z, within := schema.Field(x, l.B)
	switch l.Kind {
	case api.Rename:
		return schema.With(schema.Without(s, l.A), l.B, x), has && !beside
	case api.Add:
		return schema.With(s, l.A, l.Type), !has
	case api.Remove:
		return schema.Without(s, l.A), schema.Same(x, l.Type)
	case api.Hoist:
		return schema.With(schema.With(s, l.A, schema.Without(x, l.B)), l.B, z), within && !beside
	case api.Plunge:
		return schema.With(schema.Without(s, l.B), l.A, schema.With(x, l.B, y)), beside && x.Kind == api.Record && !within
	}
	x, ok := become(l, x)
	return schema.With(s, l.A, x), has && ok
}

// become is what a right lens that leaves its field in its place makes of that one's schema.
func become(l api.Lens, x api.Schema) (api.Schema, bool) {
	switch l.Kind {
	case api.Wrap:
		return inList(x), true
	case api.Convert:
		return l.Type, converts(l, x)
	case api.In:
		return target(l.Inner[0], x)
	}
	if x.Kind != api.List {
		return api.Schema{}, false
	}
	if l.Kind == api.Head {
		return x.Parts[0], true
	}
	part, ok := target(l.Inner[0], x.Parts[0])
	return inList(part), ok
}

func inList(part api.Schema) api.Schema {
	return api.Schema{Kind: api.List, Parts: []api.Schema{part}}
}

// converts tells whether a right Convert goes on a field of that schema. (What Back fits has no parts, as Back has none.)
func converts(l api.Lens, x api.Schema) bool {
	return schema.Fits(l.Back, x) && !slices.ContainsFunc(l.Pairs, func(p api.Pair) bool { return !schema.Fits(p.X, x) })
}

// Inverse is a lens's inverse.
func Inverse(l api.Lens, s api.Schema) (api.Lens, error) {
	if _, e := Target(l, s); e != nil {
		return api.Lens{}, e
	}
	return turn(Copy(l), s), nil
}

// turn is the inverse of a lens that is the caller's own and goes on the schema.
func turn(l api.Lens, s api.Schema) api.Lens {
	l.Kind = turned(l.Kind)
	x, _ := schema.Field(s, l.A)
	switch l.Kind {
	case api.Rename:
		l.A, l.B = l.B, l.A
	case api.Convert:
		l.Type, l.Base, l.Back = x, l.Back, l.Base
		for i, p := range l.Pairs {
			l.Pairs[i] = api.Pair{X: p.Y, Y: p.X}
		}
	case api.Map:
		x = x.Parts[0]
		// The inner lens goes on that as an In's goes on its field.
		fallthrough
	case api.In:
		l.Inner[0] = turn(l.Inner[0], x)
	}
	return l
}

// turned is the kind of an inverse.
func turned(kind int) int {
	switch kind {
	case api.Add:
		return api.Remove
	case api.Remove:
		return api.Add
	case api.Hoist:
		return api.Plunge
	case api.Plunge:
		return api.Hoist
	case api.Wrap:
		return api.Head
	case api.Head:
		return api.Wrap
	}
	return kind
}
