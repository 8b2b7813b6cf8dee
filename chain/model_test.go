package chain

import (
	"math/rand/v2"
	"reflect"
	"slices"
	"testing"

	"dioptre/api"
	"dioptre/fault"
	"dioptre/lens"
	"dioptre/restore"
	"dioptre/sample"
	"dioptre/schema"
	"dioptre/told"
	"dioptre/trial"
)

// chance makes numbers, always the same ones.
func chance() *rand.Rand { return rand.New(rand.NewPCG(16, 2026)) }

// What the tests are made of.
var (
	num, truth                   = sample.Num, sample.Truth
	fields, list, inLists        = sample.Record, sample.List, sample.InLists
	of, listOf, recordOf         = sample.Of, sample.ListOf, sample.RecordOf
	rename, add, remove          = sample.Rename, sample.Add, sample.Remove
	hoist, plunge, wrap, headOf  = sample.Hoist, sample.Plunge, sample.Wrap, sample.Head
	convert, in, each, within    = sample.Convert, sample.In, sample.Map, sample.Within
	doc, docs, texts, schemas    = told.Doc, told.Docs, told.Texts, told.Schemas
	plain, plainOf, plainLens    = sample.Plain, sample.PlainSchema, sample.PlainLens
	whole, wholeOf, wholeLens    = sample.Whole, sample.WholeSchema, sample.WholeLens
	scramble, spoilOf, spoilLens = sample.Scramble, sample.ScrambleSchema, sample.ScrambleLens
)

// noPlace is an error that has no place.
func noPlace(code api.Errno) trial.Wrong { return trial.Wrong{Code: code, Place: -1} }

// equal holds two lists of things against each other by the library's means, once each thing has lists of its own.
func equal[X any](a, b []X, plain func(x X) X) bool {
	return slices.EqualFunc(a, b, func(x, y X) bool { return reflect.DeepEqual(plain(x), plain(y)) })
}

func sameDocs(a, b []api.Value) bool { return equal(a, b, plain) }

func sameSchemas(a, b []api.Schema) bool { return equal(a, b, plainOf) }

func sameLenses(a, b []api.Lens) bool { return equal(a, b, plainLens) }

// about is a list, turned about.
func about[X any](l []X) []X {
	l = slices.Clone(l)
	slices.Reverse(l)
	return l
}

// wantSchemas: a chain's schemas, or what is wrong with it, by the chapter's words.
func wantSchemas(s api.Schema, l []api.Lens) ([]api.Schema, trial.Wrong) {
	if !schema.Right(s) {
		return nil, noPlace(api.ErrArg)
	}
	if len(l) == 0 {
		return []api.Schema{s}, trial.Wrong{}
	}
	last := len(l) - 1
	all, w := wantSchemas(s, l[:last])
	if w.Code != api.OK {
		return nil, w
	}
	t, e := lens.Target(l[last], all[last])
	if e != nil {
		return nil, trial.Wrong{Code: fault.Code(e), Place: last}
	}
	return append(all, t), trial.Wrong{}
}

// wantFirst: the first document with the number k of a chain that has these schemas, by the chapter's words.
func wantFirst(all []api.Schema, l []api.Lens, k int) api.Value {
	if k == 0 {
		return schema.Default(all[0])
	}
	there, _ := restore.First(l[k-1], all[k-1])
	v, _ := restore.Forward(l[k-1], all[k-1], wantFirst(all, l, k-1), there, 1)
	return v
}

// wantSet: what the document with the number k is, if that with the number i is set, by the chapter's words.
func wantSet(all []api.Schema, l []api.Lens, docs []api.Value, i int, x api.Value, seed uint64, k int) api.Value {
	switch {
	case k > i:
		v, _ := restore.Forward(l[k-1], all[k-1], wantSet(all, l, docs, i, x, seed, k-1), docs[k], seed)
		return v
	case k < i:
		v, _ := restore.Back(l[k], all[k], wantSet(all, l, docs, i, x, seed, k+1), docs[k], seed)
		return v
	}
	return x
}

// wantFit: whether there is one document for each schema, which fits it.
func wantFit(all []api.Schema, docs []api.Value) bool {
	for i := range min(len(all), len(docs)) {
		if !schema.Fits(docs[i], all[i]) {
			return false
		}
	}
	return len(all) == len(docs)
}

// wantConsistent: whether documents are, by the chapter's words.
func wantConsistent(s api.Schema, docs []api.Value, l []api.Lens) bool {
	all, w := wantSchemas(s, l)
	if w.Code != api.OK || !wantFit(all, docs) {
		return false
	}
	for i := 1; i < len(docs); i++ {
		if !restore.Related(l[i-1], all[i-1], docs[i-1], docs[i]) {
			return false
		}
	}
	return true
}

// wantWrong: what is wrong with setting a document, by the chapter's words.
func wantWrong(s api.Schema, docs []api.Value, i int, x api.Value, l []api.Lens) trial.Wrong {
	all, w := wantSchemas(s, l)
	switch {
	case w.Code != api.OK:
		return w
	case len(docs) != len(all), i < 0, i >= len(all):
		return noPlace(api.ErrArg)
	case !wantFit(all, docs), !schema.Fits(x, all[i]):
		return noPlace(api.ErrType)
	}
	return trial.Wrong{}
}

// wantFirsts: all first documents.
func wantFirsts(all []api.Schema, l []api.Lens) []api.Value {
	var docs []api.Value
	for k := range all {
		docs = append(docs, wantFirst(all, l, k))
	}
	return docs
}

// wantSets: all documents, of which that with the number i is set.
func wantSets(s api.Schema, l []api.Lens, docs []api.Value, i int, x api.Value, seed uint64) []api.Value {
	all, _ := wantSchemas(s, l)
	var set []api.Value
	for k := range all {
		set = append(set, wantSet(all, l, docs, i, x, seed, k))
	}
	return set
}

// checkStays: P16.3: these documents are consistent, and stay as they are, if one of them is set to what it was.
func checkStays(t *testing.T, name string, s api.Schema, there []api.Value, l []api.Lens) {
	t.Helper()
	if !Consistent(s, there, l...) || !wantConsistent(s, there, l) {
		t.Errorf("%s: %s aren't consistent", name, texts(there))
	}
	for i, x := range there {
		if got, e := Set(s, there, i, x, 5, l...); e != nil || !sameDocs(got, there) {
			t.Errorf("%s: %s don't stay, if that at %d is set to what it was: %s %v", name, texts(there), i, texts(got), e)
		}
	}
}

// checkTurned: P16.3: the inverse's schemas are the chain's, turned about, its inverse is the chain; and so are its documents, wherever one is set.
func checkTurned(t *testing.T, name string, s api.Schema, there []api.Value, i int, x api.Value, seed uint64, l []api.Lens) {
	t.Helper()
	all, e := Schemas(s, l...)
	turned, f := Inverse(s, l...)
	if e != nil || f != nil {
		t.Fatalf("%s: Schemas %v, Inverse %v", name, e, f)
	}
	last := len(l)
	turnedAll, e := Schemas(all[last], turned...)
	again, f := Inverse(all[last], turned...)
	if e != nil || f != nil || !sameSchemas(turnedAll, about(all)) || !sameLenses(again, l) {
		t.Errorf("%s: the inverse's schemas are %s %v, not those of %s, its inverse is %v %v", name, schemas(turnedAll), e, schemas(all), again, f)
	}
	if Consistent(all[last], about(there), turned...) != Consistent(s, there, l...) {
		t.Errorf("%s: %s are consistent, turned about: %v", name, texts(there), Consistent(all[last], about(there), turned...))
	}
	got, e := Set(all[last], about(there), last-i, x, seed, turned...)
	want, f := Set(s, there, i, x, seed, l...)
	if e != nil || f != nil || !sameDocs(got, about(want)) {
		t.Errorf("%s: of %s that at %d set: %s %v, turned about: %s %v", name, texts(there), i, texts(want), f, texts(got), e)
	}
}
