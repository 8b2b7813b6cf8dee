package restore

import (
	"maps"
	"math/rand/v2"
	"reflect"
	"slices"

	"dioptre/api"
	"dioptre/lens"
	"dioptre/sample"
	"dioptre/schema"
	"dioptre/told"
)

// chance makes numbers, always the same ones.
func chance() *rand.Rand { return rand.New(rand.NewPCG(15, 2026)) }

// What the tests are made of.
var (
	num, truth, word                   = sample.Num, sample.Truth, sample.Word
	fields, list, inLists              = sample.Record, sample.List, sample.InLists
	of, listOf, recordOf               = sample.Of, sample.ListOf, sample.RecordOf
	plain, roomy, whole, scramble      = sample.Plain, sample.Roomy, sample.Whole, sample.Scramble
	rename, add, remove                = sample.Rename, sample.Add, sample.Remove
	hoist, plunge, wrap, headOf        = sample.Hoist, sample.Plunge, sample.Wrap, sample.Head
	convert, in, each, within          = sample.Convert, sample.In, sample.Map, sample.Within
	roomyOf, wholeOf, spoilOf          = sample.RoomySchema, sample.WholeSchema, sample.ScrambleSchema
	roomyLens, wholeLens, scrambleLens = sample.RoomyLens, sample.WholeLens, sample.ScrambleLens
	doc, text                          = told.Doc, told.Text
)

// equal holds two values against each other by the library's means; a list without elements is the same as none.
func equal(a, b api.Value) bool { return reflect.DeepEqual(plain(a), plain(b)) }

// byName are a record's fields by their names.
func byName(v api.Value) map[string]api.Value {
	m := map[string]api.Value{}
	for i, name := range v.Names {
		m[name] = v.Parts[i]
	}
	return m
}

// fromNames is the record of fields.
func fromNames(m map[string]api.Value) api.Value {
	v := fields(slices.Sorted(maps.Keys(m)))
	for _, name := range v.Names {
		v.Parts = append(v.Parts, m[name])
	}
	return v
}

// typeOf is the type of a lens's field, in its source.
func typeOf(l api.Lens, s api.Schema) api.Schema {
	if i := slices.Index(s.Words, l.A); i >= 0 {
		return s.Parts[i]
	}
	return api.Schema{}
}

// wantHead: a list's head, by the chapter's words.
func wantHead(list api.Value, t api.Schema) api.Value {
	for _, x := range list.Parts {
		return x
	}
	return schema.Default(t)
}

// becomesY: what x becomes by a Convert; becomesX: what y becomes.
func becomesY(l api.Lens, x api.Value) api.Value {
	for _, p := range l.Pairs {
		if equal(p.X, x) {
			return p.Y
		}
	}
	return l.Base
}

func becomesX(l api.Lens, y api.Value) api.Value {
	for _, p := range l.Pairs {
		if equal(p.Y, y) {
			return p.X
		}
	}
	return l.Back
}

// wantRelated: whether two documents are related, by the chapter's words.
func wantRelated(l api.Lens, s api.Schema, a, b api.Value) bool {
	t, e := lens.Target(l, s)
	return e == nil && schema.Fits(a, s) && schema.Fits(b, t) && related(l, s, a, b)
}

// related: of documents that fit, by a lens that goes.
func related(l api.Lens, s api.Schema, a, b api.Value) bool {
	m, n := byName(a), byName(b)
	x, y := m[l.A], n[l.A]
	switch l.Kind {
	case api.Rename:
		y = n[l.B]
		delete(n, l.B)
	case api.Hoist:
		// B may stand nowhere else, and all else in A is the same.
		inX := byName(x)
		x = inX[l.B]
		delete(inX, l.B)
		if !equal(fromNames(inX), y) {
			return false
		}
		y = n[l.B]
		delete(n, l.B)
	case api.Plunge:
		t, _ := lens.Target(l, s)
		return related(hoist(l.A, l.B), t, b, a)
	}
	delete(m, l.A)
	delete(n, l.A)
	return equal(fromNames(m), fromNames(n)) && relatedFields(l, typeOf(l, s), x, y)
}

// relatedFields: whether the fields of a lens are as they have to be, t being the type of the first one.
func relatedFields(l api.Lens, t api.Schema, x, y api.Value) bool {
	switch l.Kind {
	case api.Add, api.Remove:
		return true
	case api.Wrap:
		return equal(x, wantHead(y, t))
	case api.Head:
		return equal(y, wantHead(x, t.Parts[0]))
	case api.Convert:
		return equal(y, becomesY(l, x)) || equal(x, becomesX(l, y))
	case api.In:
		return related(l.Inner[0], t, x, y)
	case api.Map:
		if !slices.Equal(x.Ids, y.Ids) {
			return false
		}
		for i := range x.Parts {
			if !related(l.Inner[0], t.Parts[0], x.Parts[i], y.Parts[i]) {
				return false
			}
		}
		return true
	}
	return equal(x, y)
}

// wantFirst: the first one of a lens that goes, by the chapter's words.
func wantFirst(l api.Lens, s api.Schema) api.Value {
	t, _ := lens.Target(l, s)
	m := byName(schema.Default(t))
	switch l.Kind {
	case api.Add:
		m[l.A] = l.Base
	case api.In:
		m[l.A] = wantFirst(l.Inner[0], typeOf(l, s))
	}
	return fromNames(m)
}

// wantForward: where one comes to by a lens that goes, of documents that fit, by the chapter's words.
func wantForward(l api.Lens, s api.Schema, a, b api.Value, seed uint64) api.Value {
	if related(l, s, a, b) {
		return b
	}
	m := byName(a)
	x, y := m[l.A], byName(b)[l.A]
	switch l.Kind {
	case api.Rename:
		delete(m, l.A)
		m[l.B] = x
	case api.Add:
		m[l.A] = y
	case api.Remove:
		delete(m, l.A)
	case api.Hoist:
		inX := byName(x)
		m[l.B] = inX[l.B]
		delete(inX, l.B)
		m[l.A] = fromNames(inX)
	case api.Plunge:
		inX := byName(x)
		inX[l.B] = m[l.B]
		delete(m, l.B)
		m[l.A] = fromNames(inX)
	default:
		m[l.A] = wantField(l, typeOf(l, s), x, y, seed)
	}
	return fromNames(m)
}

// wantField: what the field of a lens that leaves it in its place becomes, t being the type that it has.
func wantField(l api.Lens, t api.Schema, x, y api.Value, seed uint64) api.Value {
	switch l.Kind {
	case api.Wrap:
		return wantWrapped(t, x, y, seed)
	case api.Head:
		return wantHead(x, t.Parts[0])
	case api.Convert:
		if equal(x, becomesX(l, y)) {
			return y
		}
		return becomesY(l, x)
	case api.In:
		return wantForward(l.Inner[0], t, x, y, seed)
	}
	v := list(x.Ids)
	for i, id := range x.Ids {
		there := wantFirst(l.Inner[0], t.Parts[0])
		if k := slices.Index(y.Ids, id); k >= 0 {
			there = y.Parts[k]
		}
		v.Parts = append(v.Parts, wantForward(l.Inner[0], t.Parts[0], x.Parts[i], there, seed))
	}
	return v
}

// wantWrapped: the list that x is put into, y being there.
func wantWrapped(t api.Schema, x, y api.Value, seed uint64) api.Value {
	if equal(x, wantHead(y, t)) {
		return y
	}
	if seed == 0 {
		seed = 1
	}
	if len(y.Ids) == 0 {
		return list([]uint64{seed}, x)
	}
	return list(y.Ids, append([]api.Value{x}, y.Parts[1:]...)...)
}

// wantBack: where one comes back to, by the chapter's words.
func wantBack(l api.Lens, s api.Schema, b, a api.Value, seed uint64) api.Value {
	t, _ := lens.Target(l, s)
	inverse, _ := lens.Inverse(l, s)
	return wantForward(inverse, t, b, a, seed)
}

// wantLossless: whether nothing is lost by a lens, by the chapter's words.
func wantLossless(l api.Lens) bool {
	ok := lens.Right(l)
	for ok && (l.Kind == api.In || l.Kind == api.Map) {
		l = l.Inner[0]
	}
	return ok && slices.Contains([]int{api.Rename, api.Hoist, api.Plunge}, l.Kind)
}
