package path

import (
	"math/rand/v2"
	"reflect"
	"slices"
	"strings"
	"testing"

	"dioptre/api"
	"dioptre/pack"
	"dioptre/sample"
	"dioptre/schema"
	"dioptre/trial"
	"dioptre/value"
)

// chance makes numbers, always the same ones.
func chance() *rand.Rand { return rand.New(rand.NewPCG(10, 2026)) }

// What the tests are made of.
var (
	num, record, list, inLists = sample.Num, sample.Record, sample.List, sample.InLists
	roomy, whole, scramble     = sample.Roomy, sample.Whole, sample.Scramble
	steps, spare               = sample.Steps, sample.RoomyPath
)

func of(kind int) api.Schema { return api.Schema{Kind: kind} }

func listOf(parts ...api.Schema) api.Schema { return api.Schema{Kind: api.List, Parts: parts} }

func recordOf(words []string, parts ...api.Schema) api.Schema {
	return api.Schema{Kind: api.Record, Words: words, Parts: parts}
}

// samePaths holds lists of paths against each other.
func samePaths(a, b [][]api.Step) bool { return slices.EqualFunc(a, b, slices.Equal) }

// wantRight: whether a path is right, by the chapter's words.
func wantRight(p []api.Step) bool {
	ok := len(p) < 9
	for _, s := range p {
		ok = ok && (trial.Name(s.Name) && s.Id == 0 || len(s.Name) == 0 && s.Id > 0)
	}
	return ok
}

// wantThere is what stands there, by the chapter's words.
func wantThere(v api.Value, p []api.Step) (api.Value, bool) {
	if len(p) == 0 {
		return v, true
	}
	if p[0].Name != "" {
		if x, ok := value.Field(v, p[0].Name); ok {
			return wantThere(x, p[1:])
		}
		return api.Value{}, false
	}
	if i, ok := value.Elem(v, p[0].Id); ok && len(v.Parts) > i {
		return wantThere(v.Parts[i], p[1:])
	}
	return api.Value{}, false
}

// wantPut is the value with another one there, each value on the way being made anew.
func wantPut(v, x api.Value, p []api.Step) (api.Value, bool) {
	if len(p) == 0 {
		return x, true
	}
	i := slices.Index(v.Names, p[0].Name)
	if p[0].Name == "" {
		i = slices.Index(v.Ids, p[0].Id)
	}
	if _, ok := wantThere(v, p[:1]); !ok {
		return v, false
	}
	y, ok := wantPut(v.Parts[i], x, p[1:])
	v.Parts = slices.Clone(v.Parts)
	v.Parts[i] = y
	return v, ok
}

// wantType is the type there, by the chapter's words.
func wantType(s api.Schema, p []api.Step) (api.Schema, bool) {
	if len(p) == 0 {
		return s, true
	}
	if p[0].Name != "" {
		if x, ok := schema.Field(s, p[0].Name); ok {
			return wantType(x, p[1:])
		}
		return api.Schema{}, false
	}
	if s.Kind == api.List && p[0].Id > 0 && len(s.Parts) > 0 {
		return wantType(s.Parts[0], p[1:])
	}
	return api.Schema{}, false
}

// wantAll is the paths of a right value and of its parts, in order.
func wantAll(v api.Value, here ...api.Step) [][]api.Step {
	l := [][]api.Step{slices.Clone(here)}
	for i, name := range v.Names {
		l = append(l, wantAll(v.Parts[i], append(here[:len(here):len(here)], api.Step{Name: name})...)...)
	}
	for i, id := range v.Ids {
		l = append(l, wantAll(v.Parts[i], append(here[:len(here):len(here)], api.Step{Id: id})...)...)
	}
	return l
}

// readPath reads a path, by the chapter's words.
func readPath(m *trial.Model) (p []api.Step) {
	for range m.Count(8) {
		s := api.Step{Name: m.Text()}
		if s.Name == "" {
			s.Id = m.Number()
			m.Ask(s.Id > 0, api.ErrForm, m.At)
		} else {
			m.Ask(trial.Name(s.Name), api.ErrForm, m.At)
		}
		p = append(p, s)
	}
	return p
}

// code is how paths are written and read. (Those that aren't right have no bytes.)
var code = trial.Bytes[[]api.Step]{
	Encode: func(p []api.Step) ([]byte, error) {
		var w pack.Writer
		Write(&w, p)
		if len(w.Out()) == 0 {
			return nil, api.ErrArg
		}
		return w.Out(), nil
	},
	Decode: func(b []byte) ([]api.Step, error) {
		r := pack.NewReader(b)
		p := Read(r)
		if e := r.End(); e != nil {
			return nil, e
		}
		return p, nil
	},
	Read: Read, Write: Write, Equal: slices.Equal[[]api.Step], Model: readPath, Roomy: spare,
	Whole: func(p []api.Step) []api.Step { return slices.Clone(p[:cap(p)]) }, Scramble: sample.ScramblePath,
}

// someName is a name; many are alike.
func someName(r *rand.Rand) string { return string("ab_0"[r.IntN(4)]) }

// someStep is a step; a few aren't right.
func someStep(r *rand.Rand) api.Step {
	switch r.IntN(9) {
	case 0:
		return []api.Step{{}, {Name: "a", Id: 1}, {Name: "A"}, {Name: "abcdefghijklm"}, {Name: "a b", Id: 2}}[r.IntN(5)]
	case 1, 2, 3, 4:
		return api.Step{Name: someName(r)}
	}
	return api.Step{Id: 1 + r.Uint64N(4)}
}

// somePath is at most so many steps.
func somePath(r *rand.Rand, most int) []api.Step {
	var p []api.Step
	for range r.IntN(most + 1) {
		p = append(p, someStep(r))
	}
	return p
}

// someValue is a right value, at most so deep.
func someValue(r *rand.Rand, deep int) api.Value {
	kinds := 6
	if deep == 1 {
		kinds = 4
	}
	v := api.Value{Kind: 1 + r.IntN(kinds)}
	switch v.Kind {
	case api.Bool:
		v.N = r.IntN(2)
	case api.Int:
		v.N = r.IntN(100) - 50
	case api.Text:
		v.S = strings.Repeat("x", r.IntN(3))
	case api.Enum:
		v.S = someName(r)
	case api.Record:
		for range r.IntN(5) {
			v = value.With(v, someName(r), someValue(r, deep-1))
		}
	case api.List:
		for _, i := range r.Perm(4)[:r.IntN(5)] {
			v.Ids, v.Parts = append(v.Ids, uint64(i+1)), append(v.Parts, someValue(r, deep-1))
		}
	}
	return v
}

// spoil changes something in a value, itself or one of its parts: mostly it isn't right then.
func spoil(r *rand.Rand, v *api.Value) {
	if len(v.Parts) > 0 && r.IntN(3) > 0 {
		spoil(r, &v.Parts[r.IntN(len(v.Parts))])
		return
	}
	switch r.IntN(7) {
	case 0:
		v.Kind = r.IntN(9) - 1
	case 1:
		v.Names = append(v.Names, []string{"a", "A", "", "a b"}[r.IntN(4)])
	case 2:
		v.Ids = append(v.Ids, r.Uint64N(4))
	case 3:
		v.Parts = append(v.Parts, num(7))
	case 4:
		v.Names, v.Ids, v.Parts = append(v.Names, someName(r)), append(v.Ids, r.Uint64N(5)), append(v.Parts, num(8))
	case 5:
		v.Parts = v.Parts[:len(v.Parts)/2]
	default:
		slices.Reverse(v.Names)
		slices.Reverse(v.Ids)
	}
}

// someSchema is a schema, at most so deep; mostly it is right.
func someSchema(r *rand.Rand, deep int) api.Schema {
	s := of(1 + r.IntN(6))
	if deep > 1 && r.IntN(4) > 0 {
		s.Kind = 5 + r.IntN(2)
	}
	switch {
	case s.Kind == api.Enum:
		s.Words = []string{"a", "b"}
	case s.Kind == api.Record && deep > 1:
		for range r.IntN(4) {
			s = schema.With(s, someName(r), someSchema(r, deep-1))
		}
	case s.Kind == api.List && deep > 1:
		s.Parts = append(s.Parts, someSchema(r, deep-1))
	}
	if r.IntN(20) == 0 {
		s.Kind, s.Words, s.Parts = r.IntN(8), append(s.Words, someName(r)), append(s.Parts, of(1+r.IntN(3)))
	}
	return s
}

// checkOwn: a call changes nothing that is handed in, and its answer shares nothing with that.
func checkOwn(t *testing.T, name string, v, x api.Value, p []api.Step, call func(v, x api.Value, p []api.Step) api.Value) {
	t.Helper()
	v, x, p = roomy(v), roomy(x), spare(p)
	wholeV, wholeX, wholeP := whole(v), whole(x), slices.Clone(p[:cap(p)])
	unchanged := func() bool {
		return reflect.DeepEqual(whole(v), wholeV) && reflect.DeepEqual(whole(x), wholeX) && slices.Equal(p[:cap(p)], wholeP)
	}
	got := call(v, x, p)
	if !unchanged() {
		t.Errorf("%s: what is handed in has changed: %v %v %v", name, v, x, p)
	}
	scramble(got)
	if !unchanged() {
		t.Errorf("%s: the answer shares with what is handed in: %v %v %v", name, v, x, p)
	}
	got = call(v, x, p)
	kept := whole(got)
	scramble(v)
	scramble(x)
	clear(p[:cap(p)])
	if !reflect.DeepEqual(whole(got), kept) {
		t.Errorf("%s: what is handed in is kept: %v, not %v", name, got, kept)
	}
}
