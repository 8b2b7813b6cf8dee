package value

import (
	"slices"

	"dioptre/api"
	"dioptre/fields"
)

// Right tells whether a value is.
func Right(v api.Value) bool { return right(v, 1) }

// right tells whether a value is, at that depth. It looks at the parts last, when it is sure that they are few.
func right(v api.Value, depth int) bool {
	return depth <= api.MaxDeep && bare(v) && fit(v) && !slices.ContainsFunc(v.Parts, func(x api.Value) bool { return !right(x, depth+1) })
}

// bare tells whether each field that isn't named for the value's kind is zero.
func bare(v api.Value) bool {
	switch v.Kind {
	case api.Bool, api.Int:
		v.N = 0
	case api.Text, api.Enum:
		v.S = ""
	case api.Record:
		v.Names, v.Parts = nil, nil
	case api.List:
		v.Ids, v.Parts = nil, nil
	}
	return v.N == 0 && v.S == "" && len(v.Names) == 0 && len(v.Ids) == 0 && len(v.Parts) == 0
}

// fit tells whether what is named for the value's kind is as it has to be, but for the parts themselves.
func fit(v api.Value) bool {
	switch v.Kind {
	case api.Bool:
		return v.N == 0 || v.N == 1
	case api.Int:
		return true
	case api.Text:
		return len(v.S) <= api.MaxText
	case api.Enum:
		return Name(v.S)
	case api.Record:
		return fields.Right(v.Names, len(v.Parts))
	case api.List:
		return elements(v.Ids, len(v.Parts))
	}
	return false
}

// elements tells whether there may be elements of these numbers, and so many parts.
func elements(ids []uint64, parts int) bool {
	if len(ids) > api.MaxItems || len(ids) != parts {
		return false
	}
	for i, id := range ids {
		if !fresh(ids[:i], id) {
			return false
		}
	}
	return true
}

// fresh tells whether an element's number may stand behind others.
func fresh(ids []uint64, id uint64) bool {
	return id != 0 && !slices.Contains(ids, id)
}
