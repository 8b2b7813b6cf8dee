// Package place is where paths lead, in values and in schemas: to the part itself, not to a copy of it.
package place

import (
	"dioptre/api"
	"dioptre/fields"
	"dioptre/value"
)

// At hands on what stands there, and tells whether something does; next is where one step leads, nil, if it leads nowhere. (Nothing is copied on the way: what stands there may lie very deep.)
func At[T any](x *T, p []api.Step, next func(x *T, s api.Step) *T, use func(there *T)) bool {
	for _, s := range p {
		x = next(x, s)
		if x == nil {
			return false
		}
	}
	use(x)
	return true
}

// Part is where a step leads from a value.
func Part(v *api.Value, s api.Step) *api.Value {
	if v.Kind == api.Record && s.Name != "" {
		return fields.Part(v.Names, v.Parts, s.Name)
	}
	if i, ok := value.Elem(*v, s.Id); ok && s.Name == "" && i < len(v.Parts) {
		return &v.Parts[i]
	}
	return nil
}

// Type is where a step leads from a schema.
func Type(t *api.Schema, s api.Step) *api.Schema {
	if t.Kind == api.Record && s.Name != "" {
		return fields.Part(t.Words, t.Parts, s.Name)
	}
	if t.Kind == api.List && s.Name == "" && s.Id != 0 && len(t.Parts) > 0 {
		return &t.Parts[0]
	}
	return nil
}
