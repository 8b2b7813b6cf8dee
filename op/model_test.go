package op

import (
	"encoding/binary"
	"math/rand/v2"
	"reflect"
	"slices"

	"dioptre/api"
	"dioptre/path"
	"dioptre/sample"
	"dioptre/schema"
	"dioptre/trial"
	"dioptre/value"
)

// chance makes numbers, always the same ones.
func chance() *rand.Rand { return rand.New(rand.NewPCG(12, 2026)) }

// What the tests are made of.
var (
	num, truth, text, word              = sample.Num, sample.Truth, sample.Text, sample.Word
	record, list, nums, inLists         = sample.Record, sample.List, sample.Nums, sample.InLists
	of, listOf, recordOf, steps         = sample.Of, sample.ListOf, sample.RecordOf, sample.Steps
	plainValue, roomy, whole, scramble  = sample.Plain, sample.Roomy, sample.Whole, sample.Scramble
	plain, roomyOp, wholeOp, scrambleOp = sample.PlainOp, sample.RoomyOp, sample.WholeOp, sample.ScrambleOp
	set, insert, remove, move           = sample.Set, sample.Insert, sample.Delete, sample.Move
)

// empty tells whether a value is the zero one.
func empty(v api.Value) bool {
	return v.Kind == 0 && v.N == 0 && v.S == "" && len(v.Names)+len(v.Ids)+len(v.Parts) == 0
}

// wantRight: whether an operation is right, by the chapter's words.
func wantRight(o api.Op) bool {
	if !path.Right(o.Path) {
		return false
	}
	if o.Kind == api.Set {
		return value.Right(o.Value) && o.Id == 0 && o.After == 0
	}
	if o.Kind == api.Insert {
		return value.Right(o.Value) && o.Id > 0 && o.Id != o.After
	}
	if o.Kind == api.Delete {
		return o.Id > 0 && o.After == 0 && empty(o.Value)
	}
	return o.Kind == api.Move && o.Id > 0 && o.Id != o.After && empty(o.Value)
}

// wantFits: whether an operation fits a schema, by the chapter's words.
func wantFits(o api.Op, s api.Schema) bool {
	if !wantRight(o) || !schema.Right(s) {
		return false
	}
	for _, step := range o.Path {
		switch i := slices.Index(s.Words, step.Name); {
		case step.Name == "" && s.Kind == api.List:
			s = s.Parts[0]
		case step.Name != "" && s.Kind == api.Record && i >= 0:
			s = s.Parts[i]
		default:
			return false
		}
	}
	if o.Kind == api.Set {
		return schema.Fits(o.Value, s)
	}
	return s.Kind == api.List && (o.Kind != api.Insert || schema.Fits(o.Value, s.Parts[0]))
}

// wantCheck is the error of an operation for a schema.
func wantCheck(o api.Op, s api.Schema) api.Errno {
	switch {
	case !wantRight(o) || !schema.Right(s):
		return api.ErrArg
	case !wantFits(o, s):
		return api.ErrType
	}
	return api.OK
}

// wantApply is what an operation makes of a value, by the chapter's words; each value on the way is made anew.
func wantApply(s api.Schema, v api.Value, o api.Op) api.Value {
	if !wantFits(o, s) || !schema.Fits(v, s) {
		return v
	}
	return wantChange(v, o, o.Path)
}

func wantChange(v api.Value, o api.Op, p []api.Step) api.Value {
	if len(p) == 0 {
		return wantThere(v, o)
	}
	i := slices.Index(v.Names, p[0].Name)
	if p[0].Name == "" {
		i = slices.Index(v.Ids, p[0].Id)
	}
	if i >= 0 {
		v.Parts = slices.Clone(v.Parts)
		v.Parts[i] = wantChange(v.Parts[i], o, p[1:])
	}
	return v
}

// wantThere is what an operation makes of what stands at its path.
func wantThere(v api.Value, o api.Op) api.Value {
	if o.Kind == api.Set {
		return o.Value
	}
	i := slices.Index(v.Ids, o.Id)
	if o.Kind == api.Insert {
		if i >= 0 || len(v.Ids) >= 12 {
			return v
		}
		return wantIn(v, o, o.Value)
	}
	if i < 0 {
		return v
	}
	x := v.Parts[i]
	v.Ids, v.Parts = slices.Concat(v.Ids[:i], v.Ids[i+1:]), slices.Concat(v.Parts[:i], v.Parts[i+1:])
	if o.Kind == api.Move {
		return wantIn(v, o, x)
	}
	return v
}

// wantIn is the list into which an operation's element came.
func wantIn(v api.Value, o api.Op, x api.Value) api.Value {
	w, came := list(nil), false
	come := func() { w.Ids, w.Parts, came = append(w.Ids, o.Id), append(w.Parts, x), true }
	if o.After == 0 {
		come()
	}
	for i, id := range v.Ids {
		w.Ids, w.Parts = append(w.Ids, id), append(w.Parts, v.Parts[i])
		if id == o.After {
			come()
		}
	}
	if !came {
		come()
	}
	return w
}

// wantBytes is a right operation's bytes, by the chapter's words; nil, if its value alone has too many.
func wantBytes(o api.Op) []byte {
	b := []byte{byte(o.Kind)}
	b = binary.AppendUvarint(b, uint64(len(o.Path)))
	for _, s := range o.Path {
		b = append(binary.AppendUvarint(b, uint64(len(s.Name))), s.Name...)
		if s.Name == "" {
			b = binary.AppendUvarint(b, s.Id)
		}
	}
	if o.Kind != api.Set {
		b = binary.AppendUvarint(b, o.Id)
	}
	if o.Kind == api.Insert || o.Kind == api.Move {
		b = binary.AppendUvarint(b, o.After)
	}
	if o.Kind == api.Set || o.Kind == api.Insert {
		v, e := value.Encode(o.Value)
		if e != nil {
			return nil
		}
		b = append(b, v...)
	}
	return b
}

// readOp reads an operation, by the chapter's words.
func readOp(m *trial.Model) (o api.Op) {
	o.Kind, o.Path = m.Kind(4), trial.Below(m, path.Read)
	if o.Kind != api.Set {
		o.Id = m.Number()
		m.Ask(o.Id > 0, api.ErrForm, m.At)
	}
	if o.Kind == api.Insert || o.Kind == api.Move {
		o.After = m.Number()
		m.Ask(o.After != o.Id, api.ErrForm, m.At)
	}
	if o.Kind == api.Set || o.Kind == api.Insert {
		o.Value = trial.Below(m, value.Read)
	}
	return o
}

// code is how operations are written and read.
var code = trial.Bytes[api.Op]{
	Encode: Encode, Decode: Decode, Read: Read, Write: Write, Equal: equal, Model: readOp,
	Roomy: roomyOp, Whole: wholeOp, Scramble: scrambleOp,
}

// equal holds two operations against each other; a list without elements is the same as none.
func equal(a, b api.Op) bool { return reflect.DeepEqual(plain(a), plain(b)) }

// equalValues holds two values against each other.
func equalValues(a, b api.Value) bool { return reflect.DeepEqual(plainValue(a), plainValue(b)) }

// someOp is an operation that mostly is right, and often fits the schema, which the value does.
func someOp(r *rand.Rand, s api.Schema, v api.Value) api.Op {
	o := sample.SomeOp(r.IntN, s, v)
	if r.IntN(10) == 0 {
		sample.SpoilOp(r.IntN, &o)
	}
	return o
}
