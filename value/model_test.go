package value

import (
	"math/rand/v2"
	"reflect"
	"slices"
	"strings"
	"testing"

	"dioptre/api"
	"dioptre/sample"
	"dioptre/trial"
)

// chance makes numbers, always the same ones.
func chance() *rand.Rand { return rand.New(rand.NewPCG(8, 2026)) }

// What the tests are made of.
var (
	num, truth, text, word        = sample.Num, sample.Truth, sample.Text, sample.Word
	record, list, inLists         = sample.Record, sample.List, sample.InLists
	plain, roomy, whole, scramble = sample.Plain, sample.Roomy, sample.Whole, sample.Scramble
)

// inRecords is a value within so many records.
func inRecords(v api.Value, n int) api.Value {
	for range n {
		v = record([]string{"a"}, v)
	}
	return v
}

// equal holds two values against each other by the library's means.
func equal(a, b api.Value) bool { return reflect.DeepEqual(plain(a), plain(b)) }

// wantRight: whether a value is right, by the chapter's words.
func wantRight(v api.Value) bool {
	want := api.Value{Kind: v.Kind}
	ok := false
	switch v.Kind {
	case api.Bool:
		want.N, ok = v.N, v.N == 0 || v.N == 1
	case api.Int:
		want.N, ok = v.N, true
	case api.Text:
		want.S, ok = v.S, len(v.S) < 65
	case api.Enum:
		want.S, ok = v.S, trial.Name(v.S)
	case api.Record:
		want.Names, want.Parts = v.Names, v.Parts
		ok = len(v.Names) < 9 && len(v.Parts) == len(v.Names)
		for i, name := range v.Names {
			ok = ok && trial.Name(name) && (i == 0 || strings.Compare(v.Names[i-1], name) < 0)
		}
	case api.List:
		want.Ids, want.Parts = v.Ids, v.Parts
		ok = len(v.Ids) < 13 && len(v.Parts) == len(v.Ids)
		seen := map[uint64]bool{0: true}
		for _, id := range v.Ids {
			ok = ok && !seen[id]
			seen[id] = true
		}
	}
	for _, x := range v.Parts {
		ok = ok && wantRight(x)
	}
	return ok && equal(v, want) && wantDepth(v) < 6
}

func wantDepth(v api.Value) int {
	deepest := 0
	for _, x := range v.Parts {
		deepest = max(deepest, wantDepth(x))
	}
	return deepest + 1
}

func wantSize(v api.Value) int {
	size := 1
	for _, x := range v.Parts {
		size += wantSize(x)
	}
	return size
}

// readValue reads a value that lies so deep, by the chapter's words.
func readValue(m *trial.Model, depth int) api.Value {
	m.Ask(depth < 6, api.ErrDeep, m.At)
	v := api.Value{Kind: m.Kind(6)}
	switch v.Kind {
	case api.Bool:
		v.N = int(m.Byte())
		m.Ask(v.N < 2, api.ErrForm, m.At-1)
	case api.Int:
		n := m.Number()
		v.N = int(n>>1) ^ -int(n&1)
	case api.Text:
		v.S = m.Text()
	case api.Enum:
		v.S = m.Name()
	case api.Record:
		for i := range m.Count(8) {
			v.Names = append(v.Names, m.Name())
			m.Ask(i == 0 || v.Names[i-1] < v.Names[i], api.ErrForm, m.At)
			v.Parts = append(v.Parts, readValue(m, depth+1))
		}
	case api.List:
		for range m.Count(12) {
			id := m.Number()
			m.Ask(id > 0 && !slices.Contains(v.Ids, id), api.ErrForm, m.At)
			v.Ids = append(v.Ids, id)
			v.Parts = append(v.Parts, readValue(m, depth+1))
		}
	}
	return v
}

// code is how values are written and read.
var code = trial.Bytes[api.Value]{
	Encode: Encode, Decode: Decode, Read: Read, Equal: equal,
	Model: func(m *trial.Model) api.Value { return readValue(m, 1) },
	Roomy: roomy, Whole: whole, Scramble: scramble,
}

// someName is a name; many are alike, or stand close to each other.
func someName(r *rand.Rand) string {
	const letters = "ab09_z"
	b := make([]byte, 1+r.IntN(2))
	if r.IntN(20) == 0 {
		b = make([]byte, 12)
	}
	for i := range b {
		b[i] = letters[r.IntN(len(letters))]
	}
	return string(b)
}

// someNames are as many names, rising.
func someNames(r *rand.Rand, n int) []string {
	var l []string
	for len(l) < n {
		l = append(l, someName(r))
		slices.Sort(l)
		l = slices.Compact(l)
	}
	return l
}

// someValue is a right value, at most so deep.
func someValue(r *rand.Rand, deep int) api.Value {
	kinds := 6
	if deep == 1 {
		kinds = 4
	}
	switch 1 + r.IntN(kinds) {
	case api.Bool:
		return truth(r.IntN(2))
	case api.Int:
		return num(int(r.Uint64()) >> r.IntN(64))
	case api.Text:
		return text(strings.Repeat(string([]byte{byte(r.Uint32())}), r.IntN(5)))
	case api.Enum:
		return word(someName(r))
	case api.Record:
		v := api.Value{Kind: api.Record, Names: someNames(r, r.IntN(4))}
		for range v.Names {
			v.Parts = append(v.Parts, someValue(r, deep-1))
		}
		return v
	}
	v := api.Value{Kind: api.List}
	for i := range r.IntN(4) {
		v.Ids = append(v.Ids, uint64(4*i)+1+r.Uint64N(4))
		v.Parts = append(v.Parts, someValue(r, deep-1))
	}
	return v
}

// spoil changes something in a value, itself or one of its parts: mostly it isn't right then.
func spoil(r *rand.Rand, v *api.Value) {
	if len(v.Parts) > 0 && r.IntN(3) > 0 {
		spoil(r, &v.Parts[r.IntN(len(v.Parts))])
		return
	}
	switch r.IntN(12) {
	case 0:
		v.Kind = r.IntN(9) - 1
	case 1:
		v.N = r.IntN(5) - 2
	case 2:
		v.S = []string{"", "a", "A", "abcdefghijklm", strings.Repeat("x", 64), strings.Repeat("x", 65)}[r.IntN(6)]
	case 3:
		v.Names = append(v.Names, someName(r))
	case 4:
		v.Ids = append(v.Ids, r.Uint64N(6))
	case 5:
		v.Parts = append(v.Parts, num(1))
	case 6:
		v.Names, v.Parts = append(v.Names, someName(r)), append(v.Parts, num(2))
	case 7:
		v.Ids, v.Parts = append(v.Ids, r.Uint64N(16)), append(v.Parts, num(2))
	case 8:
		v.Parts = v.Parts[:len(v.Parts)/2]
	case 9:
		*v = inLists(*v, 1+r.IntN(3))
	case 10:
		slices.Reverse(v.Names)
	default:
		slices.Reverse(v.Ids)
	}
}

// checkOwn: a call changes nothing that is handed in, and its answer shares nothing with that.
func checkOwn(t *testing.T, name string, v, x api.Value, call func(v, x api.Value) api.Value) {
	t.Helper()
	v, x = roomy(v), roomy(x)
	wholeV, wholeX := whole(v), whole(x)
	unchanged := func() bool {
		return reflect.DeepEqual(whole(v), wholeV) && reflect.DeepEqual(whole(x), wholeX)
	}
	got := call(v, x)
	if !unchanged() {
		t.Errorf("%s: what is handed in has changed: %v %v", name, v, x)
	}
	scramble(got)
	if !unchanged() {
		t.Errorf("%s: the answer shares with what is handed in: %v %v", name, v, x)
	}
	got = call(v, x)
	kept := plain(got)
	scramble(v)
	scramble(x)
	if !equal(got, kept) {
		t.Errorf("%s: what is handed in is kept: %v, not %v", name, got, kept)
	}
}
