package op

import (
	"encoding/binary"
	"math/rand/v2"
	"reflect"
	"slices"

	"dioptre/api"
	"dioptre/path"
	"dioptre/sample"
	"dioptre/schema"
	"dioptre/trial"
	"dioptre/value"
)

// chance makes numbers, always the same ones.
func chance() *rand.Rand { return rand.New(rand.NewPCG(12, 2026)) }

// What the tests are made of.
var (
	num, truth, text, word             = sample.Num, sample.Truth, sample.Text, sample.Word
	record, list, nums, inLists        = sample.Record, sample.List, sample.Nums, sample.InLists
	of, listOf, recordOf, steps        = sample.Of, sample.ListOf, sample.RecordOf, sample.Steps
	plainValue, roomy, whole, scramble = sample.Plain, sample.Roomy, sample.Whole, sample.Scramble
)

func set(p []api.Step, x api.Value) api.Op { return api.Op{Kind: api.Set, Path: p, Value: x} }

func insert(p []api.Step, id, after uint64, x api.Value) api.Op {
	return api.Op{Kind: api.Insert, Path: p, Id: id, After: after, Value: x}
}

func remove(p []api.Step, id uint64) api.Op { return api.Op{Kind: api.Delete, Path: p, Id: id} }

func move(p []api.Step, id, after uint64) api.Op {
	return api.Op{Kind: api.Move, Path: p, Id: id, After: after}
}

// empty tells whether a value is the zero one.
func empty(v api.Value) bool {
	return v.Kind == 0 && v.N == 0 && v.S == "" && len(v.Names)+len(v.Ids)+len(v.Parts) == 0
}

// wantRight: whether an operation is right, by the chapter's words.
func wantRight(o api.Op) bool {
	if !path.Right(o.Path) {
		return false
	}
	if o.Kind == api.Set {
		return value.Right(o.Value) && o.Id == 0 && o.After == 0
	}
	if o.Kind == api.Insert {
		return value.Right(o.Value) && o.Id > 0 && o.Id != o.After
	}
	if o.Kind == api.Delete {
		return o.Id > 0 && o.After == 0 && empty(o.Value)
	}
	return o.Kind == api.Move && o.Id > 0 && o.Id != o.After && empty(o.Value)
}

// wantFits: whether an operation fits a schema, by the chapter's words.
func wantFits(o api.Op, s api.Schema) bool {
	if !wantRight(o) || !schema.Right(s) {
		return false
	}
	for _, step := range o.Path {
		switch i := slices.Index(s.Words, step.Name); {
		case step.Name == "" && s.Kind == api.List:
			s = s.Parts[0]
		case step.Name != "" && s.Kind == api.Record && i >= 0:
			s = s.Parts[i]
		default:
			return false
		}
	}
	if o.Kind == api.Set {
		return schema.Fits(o.Value, s)
	}
	return s.Kind == api.List && (o.Kind != api.Insert || schema.Fits(o.Value, s.Parts[0]))
}

// wantCheck is the error of an operation for a schema.
func wantCheck(o api.Op, s api.Schema) api.Errno {
	switch {
	case !wantRight(o) || !schema.Right(s):
		return api.ErrArg
	case !wantFits(o, s):
		return api.ErrType
	}
	return api.OK
}

// wantApply is what an operation makes of a value, by the chapter's words; each value on the way is made anew.
func wantApply(s api.Schema, v api.Value, o api.Op) api.Value {
	if !wantFits(o, s) || !schema.Fits(v, s) {
		return v
	}
	return wantChange(v, o, o.Path)
}

func wantChange(v api.Value, o api.Op, p []api.Step) api.Value {
	if len(p) == 0 {
		return wantThere(v, o)
	}
	i := slices.Index(v.Names, p[0].Name)
	if p[0].Name == "" {
		i = slices.Index(v.Ids, p[0].Id)
	}
	if i >= 0 {
		v.Parts = slices.Clone(v.Parts)
		v.Parts[i] = wantChange(v.Parts[i], o, p[1:])
	}
	return v
}

// wantThere is what an operation makes of what stands at its path.
func wantThere(v api.Value, o api.Op) api.Value {
	if o.Kind == api.Set {
		return o.Value
	}
	i := slices.Index(v.Ids, o.Id)
	if o.Kind == api.Insert {
		if i >= 0 || len(v.Ids) >= 12 {
			return v
		}
		return wantIn(v, o, o.Value)
	}
	if i < 0 {
		return v
	}
	x := v.Parts[i]
	v.Ids, v.Parts = slices.Concat(v.Ids[:i], v.Ids[i+1:]), slices.Concat(v.Parts[:i], v.Parts[i+1:])
	if o.Kind == api.Move {
		return wantIn(v, o, x)
	}
	return v
}

// wantIn is the list into which an operation's element came.
func wantIn(v api.Value, o api.Op, x api.Value) api.Value {
	w, came := list(nil), false
	come := func() { w.Ids, w.Parts, came = append(w.Ids, o.Id), append(w.Parts, x), true }
	if o.After == 0 {
		come()
	}
	for i, id := range v.Ids {
		w.Ids, w.Parts = append(w.Ids, id), append(w.Parts, v.Parts[i])
		if id == o.After {
			come()
		}
	}
	if !came {
		come()
	}
	return w
}

// wantBytes is a right operation's bytes, by the chapter's words; nil, if its value alone has too many.
func wantBytes(o api.Op) []byte {
	b := []byte{byte(o.Kind)}
	b = binary.AppendUvarint(b, uint64(len(o.Path)))
	for _, s := range o.Path {
		b = append(binary.AppendUvarint(b, uint64(len(s.Name))), s.Name...)
		if s.Name == "" {
			b = binary.AppendUvarint(b, s.Id)
		}
	}
	if o.Kind != api.Set {
		b = binary.AppendUvarint(b, o.Id)
	}
	if o.Kind == api.Insert || o.Kind == api.Move {
		b = binary.AppendUvarint(b, o.After)
	}
	if o.Kind == api.Set || o.Kind == api.Insert {
		v, e := value.Encode(o.Value)
		if e != nil {
			return nil
		}
		b = append(b, v...)
	}
	return b
}

// readOp reads an operation, by the chapter's words.
func readOp(m *trial.Model) (o api.Op) {
	o.Kind, o.Path = m.Kind(4), trial.Below(m, path.Read)
	if o.Kind != api.Set {
		o.Id = m.Number()
		m.Ask(o.Id > 0, api.ErrForm, m.At)
	}
	if o.Kind == api.Insert || o.Kind == api.Move {
		o.After = m.Number()
		m.Ask(o.After != o.Id, api.ErrForm, m.At)
	}
	if o.Kind == api.Set || o.Kind == api.Insert {
		o.Value = trial.Below(m, value.Read)
	}
	return o
}

// code is how operations are written and read.
var code = trial.Bytes[api.Op]{
	Encode: Encode, Decode: Decode, Read: Read, Write: Write, Equal: equal, Model: readOp,
	Roomy: roomyOp, Whole: wholeOp, Scramble: func(o api.Op) {
		scramble(o.Value)
		sample.ScramblePath(o.Path)
	},
}

// equal holds two operations against each other; a list without elements is the same as none.
func equal(a, b api.Op) bool { return reflect.DeepEqual(plain(a), plain(b)) }

// plain is the same operation, with nil for lists without elements.
func plain(o api.Op) api.Op {
	o.Path, o.Value = append([]api.Step(nil), o.Path...), plainValue(o.Value)
	return o
}

// equalValues holds two values against each other.
func equalValues(a, b api.Value) bool { return reflect.DeepEqual(plainValue(a), plainValue(b)) }

// somePath is a path that mostly leads somewhere in a value.
func somePath(r *rand.Rand, v api.Value) []api.Step {
	all := path.All(v)
	p := all[r.IntN(len(all))]
	switch r.IntN(12) {
	case 0:
		return append(p, api.Step{Name: sample.SomeName(r.IntN)})
	case 1:
		return append(p, api.Step{Id: sample.SomeId(r.IntN)})
	case 2:
		if len(p) > 0 {
			p[r.IntN(len(p))] = []api.Step{{Name: "a"}, {Id: 3}, {Id: 99}, {}, {Name: "A"}, {Name: "a", Id: 1}}[r.IntN(6)]
		}
	}
	return p
}

// someOp is an operation that mostly is right, and often fits the schema, which the value does.
func someOp(r *rand.Rand, s api.Schema, v api.Value) api.Op {
	o := api.Op{Kind: 1 + r.IntN(4), Path: somePath(r, v)}
	if o.Kind > api.Set {
		// Most lists stand deep: a few tries find one.
		for range 5 {
			if t, _ := path.Type(s, o.Path...); t.Kind != api.List {
				o.Path = somePath(r, v)
			}
		}
		o.Id = sample.SomeId(r.IntN)
		if x, _ := path.Get(v, o.Path...); len(x.Ids) > 0 && o.Kind != api.Insert && r.IntN(2) == 0 {
			o.Id = x.Ids[r.IntN(len(x.Ids))]
		}
	}
	t, ok := path.Type(s, o.Path...)
	if o.Kind == api.Insert && t.Kind == api.List {
		t = t.Parts[0]
	}
	if o.Kind <= api.Insert {
		o.Value = num(7)
		if ok && r.IntN(9) > 0 {
			o.Value = sample.SomeFit(r.IntN, t)
		}
	}
	if (o.Kind == api.Insert || o.Kind == api.Move) && r.IntN(4) > 0 {
		o.After = sample.SomeId(r.IntN)
	}
	if r.IntN(10) == 0 {
		spoil(r, &o)
	}
	return o
}

// spoil changes something in an operation: mostly it isn't right then.
func spoil(r *rand.Rand, o *api.Op) {
	switch r.IntN(6) {
	case 0:
		o.Kind = r.IntN(8) - 2
	case 1:
		o.Id = r.Uint64N(2) * sample.SomeId(r.IntN)
	case 2:
		o.After = r.Uint64N(2) * sample.SomeId(r.IntN)
	case 3:
		o.After = o.Id
	case 4:
		o.Value = []api.Value{{}, num(1), {N: 1}, {S: "a"}, {Kind: 7}, truth(2), list(nil), {Ids: []uint64{1}}, {Names: []string{"a"}}, {Parts: []api.Value{{}}}}[r.IntN(10)]
	default:
		o.Path = append(o.Path, []api.Step{{}, {Name: "A"}, {Name: "a", Id: 1}, {Name: "abcdefghijklm"}}[r.IntN(4)])
	}
}

// roomyOp is the same operation, whose lists have spare room in which something stands.
func roomyOp(o api.Op) api.Op {
	o.Path, o.Value = sample.RoomyPath(o.Path), roomy(o.Value)
	return o
}

// wholeOp is a copy of an operation with its spare room.
func wholeOp(o api.Op) api.Op {
	o.Path, o.Value = slices.Clone(o.Path[:cap(o.Path)]), whole(o.Value)
	return o
}
