package delta

import (
	"math/rand/v2"
	"reflect"
	"slices"
	"testing"

	"dioptre/api"
	"dioptre/fault"
	"dioptre/op"
	"dioptre/path"
	"dioptre/sample"
	"dioptre/value"
)

// chance makes numbers, always the same ones.
func chance() *rand.Rand { return rand.New(rand.NewPCG(13, 2026)) }

// What the tests are made of.
var (
	num, truth, text, word      = sample.Num, sample.Truth, sample.Text, sample.Word
	record, list, nums, inLists = sample.Record, sample.List, sample.Nums, sample.InLists
	of, listOf, recordOf, steps = sample.Of, sample.ListOf, sample.RecordOf, sample.Steps
	plain, roomy, whole         = sample.Plain, sample.Roomy, sample.Whole
	scramble, scramblePath      = sample.Scramble, sample.ScramblePath
)

func equal(a, b api.Value) bool { return reflect.DeepEqual(plain(a), plain(b)) }

func samePaths(a, b [][]api.Step) bool { return slices.EqualFunc(a, b, slices.Equal) }

// wantCommon is the length of a longest list that one gets from either, by a table of all beginnings.
func wantCommon(a, b []uint64) int {
	most := make([][]int, len(a)+1)
	for i := range most {
		most[i] = make([]int, len(b)+1)
	}
	for i, x := range a {
		for k, y := range b {
			most[i+1][k+1] = max(most[i][k+1], most[i+1][k])
			if x == y {
				most[i+1][k+1] = max(most[i+1][k+1], most[i][k]+1)
			}
		}
	}
	return most[len(a)][len(b)]
}

// wantPaths is the paths of what has no parts, stands in both, and isn't the same, of right values.
func wantPaths(a, b api.Value, here ...api.Step) [][]api.Step {
	var l [][]api.Step
	if len(a.Parts)+len(b.Parts) == 0 && (a.Kind != b.Kind || a.N != b.N || a.S != b.S) {
		l = append(l, slices.Clone(here))
	}
	for i, name := range a.Names {
		if k := slices.Index(b.Names, name); k >= 0 {
			l = append(l, wantPaths(a.Parts[i], b.Parts[k], append(here[:len(here):len(here)], api.Step{Name: name})...)...)
		}
	}
	for i, id := range a.Ids {
		if k := slices.Index(b.Ids, id); k >= 0 {
			l = append(l, wantPaths(a.Parts[i], b.Parts[k], append(here[:len(here):len(here)], api.Step{Id: id})...)...)
		}
	}
	return l
}

// fewest is how few operations lead from one value to another one that fits the same schema, if each one changes one element of a list, or one part that has none.
func fewest(a, b api.Value) int {
	n := len(wantPaths(a, b))
	for _, p := range path.All(a) {
		x, _ := path.Get(a, p...)
		y, ok := path.Get(b, p...)
		if !ok || x.Kind != api.List {
			continue
		}
		both := 0
		for _, id := range x.Ids {
			if slices.Contains(y.Ids, id) {
				both++
			}
		}
		n += len(x.Ids) + len(y.Ids) - both - wantCommon(x.Ids, y.Ids)
	}
	return n
}

// checkBetween: what Between tells fits the schema, leads from a to b, has no two Sets at one path, and is no more than has to be.
func checkBetween(t *testing.T, s api.Schema, a, b api.Value) []api.Op {
	t.Helper()
	l, e := Between(s, a, b)
	if e != nil {
		t.Fatalf("Between(%v, %v, %v): %v", s, a, b, e)
	}
	var set [][]api.Step
	for _, o := range l {
		if e := op.Check(o, s); e != nil {
			t.Errorf("Between(%v, %v, %v): %v doesn't fit: %v", s, a, b, o, e)
		}
		if o.Kind != api.Set {
			continue
		}
		if slices.ContainsFunc(set, func(p []api.Step) bool { return slices.Equal(p, o.Path) }) {
			t.Errorf("Between(%v, %v, %v): two Sets at %v", s, a, b, o.Path)
		}
		set = append(set, o.Path)
	}
	if got := op.Apply(s, a, l...); !equal(got, b) {
		t.Fatalf("Between(%v, %v, %v): %v leads to %v", s, a, b, l, got)
	}
	if want := fewest(a, b); len(l) != want || (len(l) == 0) != equal(a, b) {
		t.Errorf("Between(%v, %v, %v): %v, %d are enough", s, a, b, l, want)
	}
	return l
}

// checkCode: the error has that number, and no place.
func checkCode(t *testing.T, name string, e error, code api.Errno) {
	t.Helper()
	if fault.Code(e) != code || len(fault.Places(e)) > 0 || (e == nil) != (code == api.OK) {
		t.Errorf("%s: %v, not %d", name, e, code)
	}
}

// near is a value that isn't far from another one that fits a right schema, and fits it, too.
func near(r *rand.Rand, s api.Schema, v api.Value) api.Value {
	for range 1 + r.IntN(5) {
		all := path.All(v)
		p := all[r.IntN(len(all))]
		x, _ := path.Get(v, p...)
		part, _ := path.Type(s, p...)
		switch {
		case x.Kind == api.List && len(x.Ids) > 1 && r.IntN(3) > 0:
			x = shuffled(r, x)
		case x.Kind == api.List && len(x.Ids) > 0:
			x.Ids, x.Parts = x.Ids[1:], x.Parts[1:]
		default:
			x = sample.SomeFit(r.IntN, part)
		}
		v, _ = path.Put(v, x, p...)
	}
	return v
}

// shuffled is a list some of whose elements stand elsewhere.
func shuffled(r *rand.Rand, v api.Value) api.Value {
	v = value.Copy(v)
	for range 1 + r.IntN(3) {
		i, k := r.IntN(len(v.Ids)), r.IntN(len(v.Ids))
		id, x := v.Ids[i], v.Parts[i]
		v.Ids, v.Parts = slices.Delete(v.Ids, i, i+1), slices.Delete(v.Parts, i, i+1)
		v.Ids, v.Parts = slices.Insert(v.Ids, k, id), slices.Insert(v.Parts, k, x)
	}
	return v
}
