package sample

import (
	"slices"
	"strings"

	"dioptre/api"
)

// SomeName is a name; many are alike. (Pick tells a number below the one that it is handed, here and below.)
func SomeName(pick func(n int) int) string { return "abc_"[pick(4):][:1] }

// SomeSchema is a right schema, at most so deep; those that may be are mostly deep.
func SomeSchema(pick func(n int) int, deep int) api.Schema {
	kind := 1 + pick(6)
	if deep == 1 {
		kind = 1 + pick(4)
	} else if pick(3) > 0 {
		kind = 5 + pick(2)
	}
	s := Of(kind)
	switch kind {
	case api.Enum:
		s.Words = []string{"b", "a", "c"}[:1+pick(3)]
	case api.Record:
		for _, name := range []string{"_", "a", "b", "c"} {
			if pick(2) == 0 {
				s.Words, s.Parts = append(s.Words, name), append(s.Parts, SomeSchema(pick, deep-1))
			}
		}
	case api.List:
		s.Parts = append(s.Parts, SomeSchema(pick, deep-1))
	}
	return s
}

// SomeRecord is a record's right schema, mostly with fields.
func SomeRecord(pick func(n int) int) api.Schema {
	for {
		if s := SomeSchema(pick, 2+pick(4)); s.Kind == api.Record {
			return s
		}
	}
}

// SomeFit is a value that fits a right schema. Many of its elements' numbers are alike, and many of its lists are full.
func SomeFit(pick func(n int) int, s api.Schema) api.Value {
	v := api.Value{Kind: s.Kind}
	switch s.Kind {
	case api.Bool:
		v.N = pick(2)
	case api.Int:
		v.N = pick(4) - 2
	case api.Text:
		v.S = strings.Repeat("x", pick(4))
	case api.Enum:
		v.S = s.Words[pick(len(s.Words))]
	case api.Record:
		v.Names = slices.Clone(s.Words)
		for _, x := range s.Parts {
			v.Parts = append(v.Parts, SomeFit(pick, x))
		}
	case api.List:
		for range []int{0, 1, 3, 6, 40}[pick(5)] {
			if id := SomeId(pick); len(v.Ids) < api.MaxItems && !slices.Contains(v.Ids, id) {
				v.Ids, v.Parts = append(v.Ids, id), append(v.Parts, SomeFit(pick, s.Parts[0]))
			}
		}
	}
	return v
}

// SomeId is an element's number; many are alike.
func SomeId(pick func(n int) int) uint64 { return uint64(1 + pick(18)) }

// Near is a value that fits a right schema, as this one does, and differs from it in little, or in nothing.
func Near(pick func(n int) int, s api.Schema, v api.Value) api.Value {
	v = Plain(v)
	if len(v.Parts) > 0 && pick(4) > 0 {
		i := pick(len(v.Parts))
		v.Parts[i] = Near(pick, s.Parts[min(i, len(s.Parts)-1)], v.Parts[i])
		return v
	}
	if len(v.Ids) > 1 && pick(3) > 0 {
		return nearList(pick, v)
	}
	return SomeFit(pick, s)
}

// nearList is a list of the caller's own that is turned about, is shorter, or has another number; it has two elements or more.
func nearList(pick func(n int) int, v api.Value) api.Value {
	last := len(v.Ids) - 1
	switch pick(3) {
	case 0:
		v.Ids[0], v.Ids[last] = v.Ids[last], v.Ids[0]
	case 1:
		v.Ids, v.Parts = v.Ids[:last], v.Parts[:last]
	case 2:
		v.Ids[pick(len(v.Ids))] = newId(pick, v.Ids)
	}
	return v
}

// newId is an element's number that isn't one of these, of which there are at most as many as a list may have.
func newId(pick func(n int) int, ids []uint64) uint64 {
	for {
		if id := SomeId(pick); !slices.Contains(ids, id) {
			return id
		}
	}
}
