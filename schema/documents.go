package schema

import (
	"slices"

	"dioptre/api"
	"dioptre/value"
)

// Fits tells whether a value fits a schema.
func Fits(v api.Value, s api.Schema) bool {
	return value.Right(v) && Right(s) && fits(v, s)
}

// fits tells whether a right value fits a right schema.
func fits(v api.Value, s api.Schema) bool {
	if v.Kind != s.Kind {
		return false
	}
	switch s.Kind {
	case api.Enum:
		return has(s.Words, v.S)
	case api.Record:
		if !slices.Equal(v.Names, s.Words) {
			return false
		}
		for i, x := range v.Parts {
			if !fits(x, s.Parts[i]) {
				return false
			}
		}
	case api.List:
		return !slices.ContainsFunc(v.Parts, func(x api.Value) bool { return !fits(x, s.Parts[0]) })
	}
	return true
}

// Default is a schema's default.
func Default(s api.Schema) api.Value {
	if !Right(s) {
		return api.Value{}
	}
	return first(s)
}

// first is a right schema's default.
func first(s api.Schema) api.Value {
	v := api.Value{Kind: s.Kind}
	switch s.Kind {
	case api.Enum:
		v.S = s.Words[0]
	case api.Record:
		for i, name := range s.Words {
			v.Names, v.Parts = append(v.Names, name), append(v.Parts, first(s.Parts[i]))
		}
	}
	return v
}
