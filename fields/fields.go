// Package fields is what records of values and of schemas have in common: names, and a part for each.
package fields

import (
	"slices"

	"dioptre/api"
	"dioptre/pack"
	"dioptre/scan"
)

// Name tells whether a text is a name.
func Name(s string) bool {
	if len(s) == 0 || len(s) > api.MaxName {
		return false
	}
	for i := range len(s) {
		if !letter(s[i]) {
			return false
		}
	}
	return true
}

func letter(c byte) bool {
	return 'a' <= c && c <= 'z' || '0' <= c && c <= '9' || c == '_'
}

// Right tells whether there may be fields of these names, and so many parts.
func Right(names []string, parts int) bool {
	if len(names) > api.MaxWords || len(names) != parts {
		return false
	}
	for i, name := range names {
		if !follows(names[:i], name) {
			return false
		}
	}
	return true
}

// follows tells whether a name may stand behind others.
func follows(names []string, name string) bool {
	return Name(name) && (len(names) == 0 || names[len(names)-1] < name)
}

// Write writes how many fields there are, and each: its name, and its part by the function that is handed on.
func Write[T any](w *pack.Writer, names []string, parts []T, part func(w *pack.Writer, x T)) {
	w.Number(uint64(len(names)))
	for i, name := range names {
		w.Text(name)
		part(w, parts[i])
	}
}

// Read reads fields, each one's part by the function that is handed on.
func Read[T any](r *pack.Reader, part func() T) (names []string, parts []T) {
	for range scan.Count(r, api.MaxWords) {
		names = append(names, scan.Word(r, func(s string) bool { return follows(names, s) }))
		parts = append(parts, part())
	}
	return names, parts
}

// Find is the place of the first name that is like this; -1, if there is none.
func Find(names []string, name string) int {
	return slices.IndexFunc(names, func(s string) bool { return s == name })
}

// Part is the part of the first field of that name; nil, if there is none, or there are fewer parts than names.
func Part[T any](names []string, parts []T, name string) *T {
	i := Find(names, name)
	if i < 0 || len(parts) < len(names) {
		return nil
	}
	return &parts[i]
}

// With lays a part into fields that the caller owns: in the place of the first one of that name, or, where there is none, ahead of the first one whose name is behind it.
func With[T any](names []string, parts []T, name string, x T) ([]string, []T) {
	if i := Find(names, name); i >= 0 {
		parts[i] = x
		return names, parts
	}
	i := slices.IndexFunc(names, func(s string) bool { return s > name })
	if i < 0 {
		i = len(names)
	}
	return slices.Insert(names, i, name), slices.Insert(parts, i, x)
}

// Without leaves out the first field of that name, of fields that the caller owns.
func Without[T any](names []string, parts []T, name string) ([]string, []T) {
	i := Find(names, name)
	if i < 0 {
		return names, parts
	}
	return slices.Delete(names, i, i+1), slices.Delete(parts, i, i+1)
}
