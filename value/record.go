package value

import (
	"dioptre/api"
	"dioptre/fields"
)

// named tells whether a value is a record that has a part for each name.
func named(v api.Value) bool {
	return v.Kind == api.Record && len(v.Parts) >= len(v.Names)
}

// Field is a field's part.
func Field(v api.Value, name string) (api.Value, bool) {
	if v.Kind != api.Record {
		return api.Value{}, false
	}
	x := fields.Part(v.Names, v.Parts, name)
	if x == nil {
		return api.Value{}, false
	}
	return Copy(*x), true
}

// With is a record with a field.
func With(v api.Value, name string, x api.Value) api.Value {
	v = Copy(v)
	if named(v) {
		v.Names, v.Parts = fields.With(v.Names, v.Parts, name, Copy(x))
	}
	return v
}

// Without is a record without a field.
func Without(v api.Value, name string) api.Value {
	v = Copy(v)
	if named(v) {
		v.Names, v.Parts = fields.Without(v.Names, v.Parts, name)
	}
	return v
}

// Record is a record of fields.
func Record(names []string, parts ...api.Value) api.Value {
	v := api.Value{Kind: api.Record}
	for i := range min(len(names), len(parts)) {
		v.Names, v.Parts = fields.With(v.Names, v.Parts, names[i], Copy(parts[i]))
	}
	return v
}
