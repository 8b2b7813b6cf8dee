package lens

import (
	"encoding/binary"
	"maps"
	"math/rand/v2"
	"reflect"
	"slices"

	"dioptre/api"
	"dioptre/sample"
	"dioptre/schema"
	"dioptre/trial"
	"dioptre/value"
)

// chance makes numbers, always the same ones.
func chance() *rand.Rand { return rand.New(rand.NewPCG(14, 2026)) }

// What the tests are made of.
var (
	num, truth, text, word             = sample.Num, sample.Truth, sample.Text, sample.Word
	fields, list, nums, inLists        = sample.Record, sample.List, sample.Nums, sample.InLists
	of, listOf, recordOf               = sample.Of, sample.ListOf, sample.RecordOf
	plain, roomy, whole, scramble      = sample.PlainLens, sample.RoomyLens, sample.WholeLens, sample.ScrambleLens
	plainOf, roomyOf, wholeOf, spoilOf = sample.PlainSchema, sample.RoomySchema, sample.WholeSchema, sample.ScrambleSchema
	rename, add, remove                = sample.Rename, sample.Add, sample.Remove
	hoist, plunge, wrap, head          = sample.Hoist, sample.Plunge, sample.Wrap, sample.Head
	convert, in, each, within          = sample.Convert, sample.In, sample.Map, sample.Within
)

// simple tells whether a kind has no parts.
func simple(kind int) bool { return kind >= api.Bool && kind <= api.Enum }

// wantRight: whether a lens is right, by the chapter's words.
func wantRight(l api.Lens) bool { return wantRightAt(l, 1) }

func wantRightAt(l api.Lens, depth int) bool {
	l = plain(l)
	named := api.Lens{Kind: l.Kind, A: l.A}
	ok := trial.Name(l.A) && depth < 6
	switch l.Kind {
	case api.Rename, api.Hoist, api.Plunge:
		named.B = l.B
		ok = ok && trial.Name(l.B) && l.B != l.A
	case api.Add, api.Remove:
		named.Type, named.Base = l.Type, l.Base
		ok = ok && schema.Right(l.Type) && schema.Fits(l.Base, l.Type)
	case api.Wrap, api.Head:
	case api.Convert:
		named.Type, named.Base, named.Back, named.Pairs = l.Type, l.Base, l.Back, l.Pairs
		ok = ok && schema.Right(l.Type) && simple(l.Type.Kind) && schema.Fits(l.Base, l.Type)
		ok = ok && value.Right(l.Back) && simple(l.Back.Kind) && len(l.Pairs) < 9
		for _, p := range l.Pairs {
			ok = ok && value.Right(p.X) && simple(p.X.Kind) && schema.Fits(p.Y, l.Type)
		}
	case api.In, api.Map:
		named.Inner = l.Inner
		ok = ok && len(l.Inner) == 1 && wantRightAt(l.Inner[0], depth+1)
	default:
		return false
	}
	return ok && reflect.DeepEqual(named, l)
}

// byName are a record's fields by their names; none of what is no record.
func byName(s api.Schema) map[string]api.Schema {
	m := map[string]api.Schema{}
	if s.Kind == api.Record {
		for i, name := range s.Words {
			m[name] = s.Parts[i]
		}
	}
	return m
}

// fromNames is the record of fields.
func fromNames(m map[string]api.Schema) api.Schema {
	s := recordOf(slices.Sorted(maps.Keys(m)))
	for _, name := range s.Words {
		s.Parts = append(s.Parts, m[name])
	}
	return s
}

// wantGoes: whether a right lens goes on a schema, and its target, by the chapter's words.
func wantGoes(l api.Lens, s api.Schema) (api.Schema, bool) {
	if !schema.Right(s) || s.Kind != api.Record {
		return api.Schema{}, false
	}
	m := byName(s)
	a, ok := m[l.A]
	b, beside := m[l.B]
	of := byName(a)
	inner, has := of[l.B]
	switch l.Kind {
	case api.Rename:
		ok = ok && !beside
		delete(m, l.A)
		m[l.B] = a
	case api.Add:
		ok = !ok
		m[l.A] = l.Type
	case api.Remove:
		ok = ok && schema.Same(a, l.Type)
		delete(m, l.A)
	case api.Hoist:
		ok = ok && a.Kind == api.Record && has && !beside
		delete(of, l.B)
		m[l.A], m[l.B] = fromNames(of), inner
	case api.Plunge:
		ok = ok && beside && a.Kind == api.Record && !has
		delete(m, l.B)
		of[l.B] = b
		m[l.A] = fromNames(of)
	case api.Wrap:
		m[l.A] = listOf(a)
	default:
		var goes bool
		m[l.A], goes = wantBecomes(l, a)
		ok = ok && goes
	}
	t := fromNames(m)
	return t, ok && schema.Right(t)
}

// wantBecomes: what the field of a Head, Convert, In or Map becomes.
func wantBecomes(l api.Lens, a api.Schema) (api.Schema, bool) {
	ofRecords := a.Kind == api.List && a.Parts[0].Kind == api.Record
	switch {
	case l.Kind == api.Head && a.Kind == api.List:
		return a.Parts[0], true
	case l.Kind == api.Convert:
		ok := simple(a.Kind) && schema.Fits(l.Back, a)
		for _, p := range l.Pairs {
			ok = ok && schema.Fits(p.X, a)
		}
		return l.Type, ok
	case l.Kind == api.In && a.Kind == api.Record:
		return wantGoes(l.Inner[0], a)
	case l.Kind == api.Map && ofRecords:
		t, ok := wantGoes(l.Inner[0], a.Parts[0])
		return listOf(t), ok
	}
	return a, false
}

// wantTarget: the target, or the error.
func wantTarget(l api.Lens, s api.Schema) (api.Schema, api.Errno) {
	if !wantRight(l) {
		return api.Schema{}, api.ErrArg
	}
	t, ok := wantGoes(l, s)
	if !ok {
		return api.Schema{}, api.ErrLens
	}
	return t, api.OK
}

// wantInverse: the inverse of a lens that goes on the schema, by the chapter's words.
func wantInverse(l api.Lens, s api.Schema) api.Lens {
	x := byName(s)[l.A]
	switch l.Kind {
	case api.Rename:
		return rename(l.B, l.A)
	case api.Add:
		return remove(l.A, l.Type, l.Base)
	case api.Remove:
		return add(l.A, l.Type, l.Base)
	case api.Hoist:
		return plunge(l.A, l.B)
	case api.Plunge:
		return hoist(l.A, l.B)
	case api.Wrap:
		return head(l.A)
	case api.Head:
		return wrap(l.A)
	case api.In:
		return in(l.A, wantInverse(l.Inner[0], x))
	case api.Map:
		return each(l.A, wantInverse(l.Inner[0], x.Parts[0]))
	}
	c := convert(l.A, x, l.Back, l.Base)
	for _, p := range l.Pairs {
		c.Pairs = append(c.Pairs, api.Pair{X: p.Y, Y: p.X})
	}
	return c
}

// wantBytes is a right lens's bytes, by the chapter's words; nil, if a field alone has too many.
func wantBytes(l api.Lens) (b []byte) {
	text := func(s string) { b = append(binary.AppendUvarint(b, uint64(len(s))), s...) }
	long := false
	part := func(x []byte, e error) { b, long = append(b, x...), long || e != nil }
	b = append(b, byte(l.Kind))
	text(l.A)
	if l.B != "" {
		text(l.B)
	}
	if l.Type.Kind != api.None {
		part(schema.Encode(l.Type))
		part(value.Encode(l.Base))
	}
	if l.Kind == api.Convert {
		part(value.Encode(l.Back))
		b = append(b, byte(len(l.Pairs)))
	}
	for _, p := range l.Pairs {
		part(value.Encode(p.X))
		part(value.Encode(p.Y))
	}
	for _, x := range l.Inner {
		inner := wantBytes(x)
		b, long = append(b, inner...), long || inner == nil
	}
	if long {
		return nil
	}
	return b
}

// readLens reads a lens that lies so deep, by the chapter's words.
func readLens(m *trial.Model, depth int) (l api.Lens) {
	m.Ask(depth < 6, api.ErrDeep, m.At)
	l.Kind, l.A = m.Kind(10), m.Name()
	switch l.Kind {
	case api.Rename, api.Hoist, api.Plunge:
		l.B = m.Name()
		m.Ask(l.B != l.A, api.ErrForm, m.At)
	case api.In, api.Map:
		l.Inner = append(l.Inner, readLens(m, depth+1))
	case api.Add, api.Remove, api.Convert:
		l.Type = trial.Below(m, schema.Read)
		m.Ask(l.Kind != api.Convert || simple(l.Type.Kind), api.ErrForm, m.At)
		l.Base = readValue(m, func(v api.Value) bool { return schema.Fits(v, l.Type) })
	}
	if l.Kind == api.Convert {
		readBack(m, &l)
	}
	return l
}

// readValue reads a value that is to be so.
func readValue(m *trial.Model, ok func(v api.Value) bool) api.Value {
	v := trial.Below(m, value.Read)
	m.Ask(ok(v), api.ErrForm, m.At)
	return v
}

// readBack reads what only a Convert has.
func readBack(m *trial.Model, l *api.Lens) {
	scalar := func(v api.Value) bool { return simple(v.Kind) }
	l.Back = readValue(m, scalar)
	for range m.Count(8) {
		x := readValue(m, scalar)
		y := readValue(m, func(v api.Value) bool { return schema.Fits(v, l.Type) })
		l.Pairs = append(l.Pairs, api.Pair{X: x, Y: y})
	}
}

// code is how lenses are written and read.
var code = trial.Bytes[api.Lens]{
	Encode: Encode, Decode: Decode, Read: Read, Write: Write, Equal: equal,
	Model: func(m *trial.Model) api.Lens { return readLens(m, 1) },
	Roomy: roomy, Whole: whole, Scramble: scramble,
}

// equal holds two lenses against each other by the library's means; a list without elements is the same as none.
func equal(a, b api.Lens) bool { return reflect.DeepEqual(plain(a), plain(b)) }

// equalOf holds two schemas against each other likewise.
func equalOf(a, b api.Schema) bool { return reflect.DeepEqual(plainOf(a), plainOf(b)) }
