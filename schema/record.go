package schema

import (
	"dioptre/api"
	"dioptre/fields"
)

// named tells whether a schema is a record that has a part for each word.
func named(s api.Schema) bool {
	return s.Kind == api.Record && len(s.Parts) >= len(s.Words)
}

// Field is a field's part.
func Field(s api.Schema, name string) (api.Schema, bool) {
	if s.Kind != api.Record {
		return api.Schema{}, false
	}
	x := fields.Part(s.Words, s.Parts, name)
	if x == nil {
		return api.Schema{}, false
	}
	return Copy(*x), true
}

// With is a record with a field.
func With(s api.Schema, name string, x api.Schema) api.Schema {
	s = Copy(s)
	if named(s) {
		s.Words, s.Parts = fields.With(s.Words, s.Parts, name, Copy(x))
	}
	return s
}

// Without is a record without a field.
func Without(s api.Schema, name string) api.Schema {
	s = Copy(s)
	if named(s) {
		s.Words, s.Parts = fields.Without(s.Words, s.Parts, name)
	}
	return s
}

// Record is a record of fields.
func Record(names []string, parts ...api.Schema) api.Schema {
	s := api.Schema{Kind: api.Record}
	for i := range min(len(names), len(parts)) {
		s.Words, s.Parts = fields.With(s.Words, s.Parts, names[i], Copy(parts[i]))
	}
	return s
}
