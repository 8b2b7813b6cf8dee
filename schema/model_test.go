package schema

import (
	"math/rand/v2"
	"reflect"
	"slices"
	"strings"
	"testing"

	"dioptre/api"
	"dioptre/trial"
)

// chance makes numbers, always the same ones.
func chance() *rand.Rand { return rand.New(rand.NewPCG(9, 2026)) }

func of(kind int) api.Schema { return api.Schema{Kind: kind} }

func enum(words ...string) api.Schema { return api.Schema{Kind: api.Enum, Words: words} }

func list(part api.Schema) api.Schema {
	return api.Schema{Kind: api.List, Parts: []api.Schema{part}}
}

func record(names []string, parts ...api.Schema) api.Schema {
	return api.Schema{Kind: api.Record, Words: names, Parts: parts}
}

// inLists is a schema within so many lists.
func inLists(s api.Schema, n int) api.Schema {
	for range n {
		s = list(s)
	}
	return s
}

// inRecords is a schema within so many records.
func inRecords(s api.Schema, n int) api.Schema {
	for range n {
		s = record([]string{"a"}, s)
	}
	return s
}

// equal holds two schemas against each other by the library's means.
func equal(a, b api.Schema) bool { return reflect.DeepEqual(plain(a), plain(b)) }

// wantRight: whether a schema is right, by the chapter's words.
func wantRight(s api.Schema) bool {
	ok := false
	switch s.Kind {
	case api.Bool, api.Int, api.Text:
		ok = len(s.Words) == 0 && len(s.Parts) == 0
	case api.Enum:
		ok = len(s.Words) > 0 && len(s.Words) < 9 && len(s.Parts) == 0
		seen := map[string]bool{}
		for _, word := range s.Words {
			ok = ok && !seen[word]
			seen[word] = true
		}
	case api.Record:
		ok = len(s.Words) < 9 && len(s.Parts) == len(s.Words) && slices.IsSorted(s.Words)
		for i := range len(s.Words) - 1 {
			ok = ok && s.Words[i] != s.Words[i+1]
		}
	case api.List:
		ok = len(s.Words) == 0 && len(s.Parts) == 1
	}
	for _, word := range s.Words {
		ok = ok && trial.Name(word)
	}
	for _, x := range s.Parts {
		ok = ok && wantRight(x)
	}
	return ok && wantDepth(s) < 6
}

func wantDepth(s api.Schema) int {
	deepest := 0
	for _, x := range s.Parts {
		deepest = max(deepest, wantDepth(x))
	}
	return deepest + 1
}

// readSchema reads a schema that lies so deep, by the chapter's words.
func readSchema(m *trial.Model, depth int) api.Schema {
	m.Ask(depth < 6, api.ErrDeep, m.At)
	s := api.Schema{Kind: m.Kind(6)}
	switch s.Kind {
	case api.List:
		s.Parts = append(s.Parts, readSchema(m, depth+1))
	case api.Enum:
		n := m.Count(8)
		m.Ask(n > 0, api.ErrForm, m.At)
		for range n {
			word := m.Name()
			m.Ask(!slices.Contains(s.Words, word), api.ErrForm, m.At)
			s.Words = append(s.Words, word)
		}
	case api.Record:
		for i := range m.Count(8) {
			word := m.Name()
			m.Ask(i == 0 || s.Words[i-1] < word, api.ErrForm, m.At)
			s.Words, s.Parts = append(s.Words, word), append(s.Parts, readSchema(m, depth+1))
		}
	}
	return s
}

// code is how schemas are written and read.
var code = trial.Bytes[api.Schema]{
	Encode: Encode, Decode: Decode, Read: Read, Equal: equal,
	Model: func(m *trial.Model) api.Schema { return readSchema(m, 1) },
	Roomy: roomy, Whole: whole, Scramble: scramble,
}

// someName is a name; many are alike, or stand close to each other.
func someName(r *rand.Rand) string {
	const letters = "ab09_z"
	b := make([]byte, 1+r.IntN(2))
	for i := range b {
		b[i] = letters[r.IntN(len(letters))]
	}
	return string(b)
}

// someNames are as many unlike names.
func someNames(r *rand.Rand, n int) []string {
	var l []string
	for len(l) < n {
		if s := someName(r); !slices.Contains(l, s) {
			l = append(l, s)
		}
	}
	return l
}

// someSchema is a right schema, at most so deep.
func someSchema(r *rand.Rand, deep int) api.Schema {
	kinds := 6
	if deep == 1 {
		kinds = 4
	}
	s := of(1 + r.IntN(kinds))
	switch s.Kind {
	case api.Enum:
		s.Words = someNames(r, 1+r.IntN(8))
	case api.Record:
		s.Words = slices.Sorted(slices.Values(someNames(r, r.IntN(4))))
		for range s.Words {
			s.Parts = append(s.Parts, someSchema(r, deep-1))
		}
	case api.List:
		s.Parts = append(s.Parts, someSchema(r, deep-1))
	}
	return s
}

// someFitting is a value that fits a right schema.
func someFitting(r *rand.Rand, s api.Schema) api.Value {
	v := api.Value{Kind: s.Kind}
	switch s.Kind {
	case api.Bool:
		v.N = r.IntN(2)
	case api.Int:
		v.N = int(r.Uint64()) >> r.IntN(64)
	case api.Text:
		v.S = strings.Repeat("x", r.IntN(65))
	case api.Enum:
		v.S = s.Words[r.IntN(len(s.Words))]
	case api.Record:
		v.Names = slices.Clone(s.Words)
		for _, part := range s.Parts {
			v.Parts = append(v.Parts, someFitting(r, part))
		}
	case api.List:
		for i := range r.IntN(5) {
			v.Ids, v.Parts = append(v.Ids, uint64(9-i)), append(v.Parts, someFitting(r, s.Parts[0]))
		}
	}
	return v
}

// spoil changes something in a schema, itself or one of its parts: mostly it isn't right then.
func spoil(r *rand.Rand, s *api.Schema) {
	if len(s.Parts) > 0 && r.IntN(3) > 0 {
		spoil(r, &s.Parts[r.IntN(len(s.Parts))])
		return
	}
	switch r.IntN(8) {
	case 0:
		s.Kind = r.IntN(9) - 1
	case 1:
		s.Words = append(s.Words, someName(r))
	case 2:
		s.Parts = append(s.Parts, of(1+r.IntN(3)))
	case 3:
		s.Words, s.Parts = append(s.Words, someName(r)), append(s.Parts, of(api.Int))
	case 4:
		s.Words = append(s.Words, []string{"", "A", "abcdefghijklm", "a b"}[r.IntN(4)])
	case 5:
		s.Parts = s.Parts[:len(s.Parts)/2]
	case 6:
		*s = inLists(*s, 1+r.IntN(3))
	default:
		slices.Reverse(s.Words)
	}
}

// checkOwn: a call changes nothing that is handed in, and its answer shares nothing with that.
func checkOwn(t *testing.T, name string, s, x api.Schema, call func(s, x api.Schema) api.Schema) {
	t.Helper()
	s, x = roomy(s), roomy(x)
	wholeS, wholeX := whole(s), whole(x)
	unchanged := func() bool {
		return reflect.DeepEqual(whole(s), wholeS) && reflect.DeepEqual(whole(x), wholeX)
	}
	got := call(s, x)
	if !unchanged() {
		t.Errorf("%s: what is handed in has changed: %v %v", name, s, x)
	}
	scramble(got)
	if !unchanged() {
		t.Errorf("%s: the answer shares with what is handed in: %v %v", name, s, x)
	}
	got = call(s, x)
	kept := plain(got)
	scramble(s)
	scramble(x)
	if !equal(got, kept) {
		t.Errorf("%s: what is handed in is kept: %v, not %v", name, got, kept)
	}
}
