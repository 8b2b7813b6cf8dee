package sample

import (
	"slices"
	"strings"

	"dioptre/api"
)

// SomeName is a name; many are alike. (Pick tells a number below the one that it is handed, here and below.)
func SomeName(pick func(n int) int) string { return "abc_"[pick(4):][:1] }

// SomeSchema is a right schema, at most so deep; those that may be are mostly deep.
func SomeSchema(pick func(n int) int, deep int) api.Schema {
	kind := 1 + pick(6)
	if deep == 1 {
		kind = 1 + pick(4)
	} else if pick(3) > 0 {
		kind = 5 + pick(2)
	}
	s := Of(kind)
	switch kind {
	case api.Enum:
		s.Words = []string{"b", "a", "c"}[:1+pick(3)]
	case api.Record:
		for _, name := range []string{"_", "a", "b", "c"} {
			if pick(2) == 0 {
				s.Words, s.Parts = append(s.Words, name), append(s.Parts, SomeSchema(pick, deep-1))
			}
		}
	case api.List:
		s.Parts = append(s.Parts, SomeSchema(pick, deep-1))
	}
	return s
}

// SomeFit is a value that fits a right schema. Many of its elements' numbers are alike, and many of its lists are full.
func SomeFit(pick func(n int) int, s api.Schema) api.Value {
	v := api.Value{Kind: s.Kind}
	switch s.Kind {
	case api.Bool:
		v.N = pick(2)
	case api.Int:
		v.N = pick(4) - 2
	case api.Text:
		v.S = strings.Repeat("x", pick(4))
	case api.Enum:
		v.S = s.Words[pick(len(s.Words))]
	case api.Record:
		v.Names = slices.Clone(s.Words)
		for _, x := range s.Parts {
			v.Parts = append(v.Parts, SomeFit(pick, x))
		}
	case api.List:
		for range []int{0, 1, 3, 6, 40}[pick(5)] {
			if id := SomeId(pick); len(v.Ids) < api.MaxItems && !slices.Contains(v.Ids, id) {
				v.Ids, v.Parts = append(v.Ids, id), append(v.Parts, SomeFit(pick, s.Parts[0]))
			}
		}
	}
	return v
}

// SomeId is an element's number; many are alike.
func SomeId(pick func(n int) int) uint64 { return uint64(1 + pick(18)) }
