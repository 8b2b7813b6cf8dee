package chain

import (
	"math"
	"math/rand/v2"
	"reflect"
	"testing"

	"dioptre/api"
	"dioptre/fault"
	"dioptre/lens"
	"dioptre/sample"
	"dioptre/trial"
)

// someChain is a record's schema, and lenses; mostly they are a chain.
func someChain(r *rand.Rand) (api.Schema, []api.Lens) {
	s := sample.SomeRecord(r.IntN)
	at := s
	var l []api.Lens
	for range r.IntN(6) {
		x := sample.SomeLens(r.IntN, at, 5)
		if last := len(l) - 1; last >= 0 && r.IntN(4) == 0 {
			// There and back.
			all, w := wantSchemas(s, l)
			if w.Code == api.OK {
				x, _ = lens.Inverse(l[last], all[last])
			}
		}
		if r.IntN(25) == 0 {
			sample.SpoilLens(r.IntN, &x)
		}
		l = append(l, x)
		if t, e := lens.Target(x, at); e == nil {
			at = t
		}
	}
	return s, l
}

// someDocs are documents that fit the schemas; mostly they are far from each other.
func someDocs(r *rand.Rand, all []api.Schema) []api.Value {
	var docs []api.Value
	for _, s := range all {
		docs = append(docs, sample.SomeFit(r.IntN, s))
	}
	return docs
}

// checkChain: P16.1: of any schema and lenses all is told as the model says.
func checkChain(t *testing.T, s api.Schema, l []api.Lens) bool {
	t.Helper()
	want, w := wantSchemas(s, l)
	if w.Code != api.OK {
		checkWrong(t, "any", s, l, w)
		return false
	}
	all, e := Schemas(s, l...)
	if e != nil || !sameSchemas(all, want) {
		t.Errorf("Schemas: %s %v, not %s", schemas(all), e, schemas(want))
	}
	first, e := First(s, l...)
	if want := wantFirsts(all, l); e != nil || !sameDocs(first, want) {
		t.Errorf("First: %s %v, not %s", texts(first), e, texts(want))
	}
	checkStays(t, "the first documents", s, first, l)
	return true
}

// checkDocs: P16.2, P16.3: of any documents all is told as the model says.
func checkDocs(t *testing.T, s api.Schema, l []api.Lens, docs []api.Value, i int, x api.Value, seed uint64) []api.Value {
	t.Helper()
	got, e := Set(s, docs, i, x, seed, l...)
	w := wantWrong(s, docs, i, x, l)
	trial.Error(t, "Set", e, w)
	if Consistent(s, docs, l...) != wantConsistent(s, docs, l) {
		t.Errorf("Consistent of %s: %v", texts(docs), !wantConsistent(s, docs, l))
	}
	if w.Code != api.OK {
		if got != nil {
			t.Errorf("Set beside an error: %v", got)
		}
		return nil
	}
	if want := wantSets(s, l, docs, i, x, seed); !sameDocs(got, want) {
		t.Errorf("of %s that at %d set to %s: %s, not %s", texts(docs), i, texts([]api.Value{x}), texts(got), texts(want))
	}
	checkStays(t, "set documents", s, got, l)
	checkTurned(t, "any", s, docs, i, x, seed, l)
	return got
}

// TestAny: any chains, documents and seeds: documents that are far from each other, then consistent ones, of which one is set to another one, mostly one that is near.
func TestAny(t *testing.T) {
	r := chance()
	kinds, wrong, lengths, consistent := map[int]int{}, map[api.Errno]int{}, map[int]int{}, 0
	for range 1200 {
		s, l := someChain(r)
		if !checkChain(t, s, l) {
			_, e := Schemas(s, l...)
			wrong[fault.Code(e)]++
			continue
		}
		all, _ := wantSchemas(s, l)
		lengths[len(l)]++
		for _, x := range l {
			kinds[x.Kind]++
		}
		docs := someDocs(r, all)
		for range 3 {
			seed := []uint64{0, 1, 2, 7, 18, math.MaxUint64}[r.IntN(6)]
			i := r.IntN(len(all))
			if Consistent(s, docs, l...) {
				consistent++
			}
			docs = checkDocs(t, s, l, docs, i, sample.Near(r.IntN, all[i], docs[i]), seed)
			if t.Failed() {
				t.Fatalf("that was %v on %v, %d set, the seed being %d", l, s, i, seed)
			}
		}
	}
	for kind := 1; kind < 11; kind++ {
		if kinds[kind] < 40 {
			t.Errorf("%v", kinds)
		}
	}
	if len(lengths) != 6 || min(lengths[0], lengths[1], lengths[5]) < 80 || min(wrong[api.ErrArg], wrong[api.ErrLens]) < 30 || consistent < 1600 {
		t.Error(lengths, wrong, consistent)
	}
}

// TestAnyWrong: documents some of which don't fit, or of which there are more or less, and any numbers.
func TestAnyWrong(t *testing.T) {
	r := chance()
	count := map[api.Errno]int{}
	for range 1500 {
		s, l := someChain(r)
		all, w := wantSchemas(s, l)
		if w.Code != api.OK {
			continue
		}
		docs := someDocs(r, all)
		i := r.IntN(len(all))
		x := sample.SomeFit(r.IntN, all[i])
		for range r.IntN(3) {
			switch k := r.IntN(len(docs)); r.IntN(5) {
			case 0:
				docs = docs[:k]
			case 1:
				docs = append(docs, docs[k])
			case 2:
				docs[k] = docs[r.IntN(len(docs))]
			case 3:
				x = docs[k]
			case 4:
				i = r.IntN(len(all)+4) - 2
			}
			if len(docs) == 0 {
				break
			}
		}
		count[wantWrong(s, docs, i, x, l).Code]++
		checkDocs(t, s, l, docs, i, x, 7)
		if t.Failed() {
			t.Fatalf("that was %v on %v, %d set", l, s, i)
		}
	}
	if min(count[api.OK], count[api.ErrArg], count[api.ErrType]) < 150 {
		t.Errorf("%v", count)
	}
}

// own is what is handed in, with spare room everywhere.
type own struct {
	s    api.Schema
	docs api.Value
	x    api.Value
	l    api.Lens
}

func owned(c row, x set) own {
	return own{sample.RoomySchema(c.s), sample.Roomy(list(nil, docs(x.docs)...)), sample.Roomy(doc(x.x)), sample.RoomyLens(in("", c.l...))}
}

// kept is a copy of all that with its spare room.
func (o own) kept() own {
	return own{wholeOf(o.s), whole(o.docs), whole(o.x), wholeLens(o.l)}
}

func (o own) scramble() {
	spoilOf(o.s)
	scramble(o.docs)
	scramble(o.x)
	spoilLens(o.l)
}

// TestOwn: what is handed in isn't changed, its spare room neither, and isn't kept; what is told is new, and no two things of it share.
func TestOwn(t *testing.T) {
	for _, c := range rows() {
		for _, x := range c.sets {
			o := owned(c, x)
			kept := o.kept()
			Consistent(o.s, o.docs.Parts, o.l.Inner...)
			for i := range c.l {
				checkOwn(t, c, x, o, i)
			}
			first, _ := First(o.s, o.l.Inner...)
			got, _ := Set(o.s, o.docs.Parts, x.i, o.x, x.seed, o.l.Inner...)
			if !sample.Apart(list(nil, first...)) || !sample.Apart(list(nil, got...)) {
				t.Errorf("%s: two documents of an answer share", c.name)
			}
			if !reflect.DeepEqual(o.kept(), kept) {
				t.Fatalf("%s: an answer shares with what is handed in, or that has changed", c.name)
			}
			all, _ := Schemas(o.s, o.l.Inner...)
			turned, _ := Inverse(o.s, o.l.Inner...)
			first, _ = First(o.s, o.l.Inner...)
			got, _ = Set(o.s, o.docs.Parts, x.i, o.x, x.seed, o.l.Inner...)
			o.scramble()
			if schemas(all) != c.schemas || !sameLenses(turned, c.inverse) || texts(first) != c.first || texts(got) != x.want {
				t.Errorf("%s: what is handed in is kept", c.name)
			}
		}
	}
}

// checkOwn: the schema, and the inverse's lens, with this number share nothing with the others.
func checkOwn(t *testing.T, c row, x set, o own, i int) {
	t.Helper()
	all, _ := Schemas(o.s, o.l.Inner...)
	turned, _ := Inverse(o.s, o.l.Inner...)
	spoilOf(all[i])
	spoilLens(turned[i])
	want, _ := wantSchemas(c.s, c.l)
	all[i], turned[i] = want[i], c.inverse[i]
	if !sameSchemas(all, want) || !sameLenses(turned, c.inverse) {
		t.Errorf("%s: two schemas, or two lenses, of an answer share", c.name)
	}
}
