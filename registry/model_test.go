package registry

import (
	"fmt"
	"math/rand/v2"
	"reflect"
	"slices"
	"strings"

	"dioptre/api"
	"dioptre/fault"
	"dioptre/lens"
	"dioptre/sample"
	"dioptre/schema"
)

// chance makes numbers, always the same ones.
func chance() *rand.Rand { return rand.New(rand.NewPCG(20, 2026)) }

// What the tests are made of.
var (
	of, listOf, recordOf = sample.Of, sample.ListOf, sample.RecordOf
	num, rename, wrap    = sample.Num, sample.Rename, sample.Wrap
	plainOf, plainLens   = sample.PlainSchema, sample.PlainLens
)

// one is the record of a number a.
func one() api.Schema { return recordOf([]string{"a"}, of(api.Int)) }

// further is a lens that goes on a version whose fields came by such lenses: a field comes.
func further(r *Registry, from api.Hash) api.Lens {
	return sample.Add("f"+string(rune('0'+r.Depth(from))), of(api.Int), num(1))
}

// named is the name of a letter; a point stands for the one that is zero.
func named(letter byte) api.Hash {
	if letter == '.' {
		return api.Hash{}
	}
	return api.Hash{letter}
}

// names are those of letters.
func names(s string) []api.Hash {
	var l []api.Hash
	for _, letter := range []byte(s) {
		l = append(l, named(letter))
	}
	return l
}

// letters are the letters of names, or, of such as have none, their bytes.
func letters(l ...api.Hash) string {
	s := ""
	for _, h := range l {
		s += letterOf(h)
	}
	return s
}

func letterOf(h api.Hash) string {
	for letter := byte('!'); letter <= 'z'; letter++ {
		if named(letter) == h {
			return string(rune(letter))
		}
	}
	return fmt.Sprintf("(%x)", h)
}

// edges are edges' texts, with a space between two: + stands for down, - for up.
func edges(l []Edge) string {
	var words []string
	for _, e := range l {
		sign := "-"
		if e.Down {
			sign = "+"
		}
		words = append(words, letters(e.From)+sign+letters(e.To))
	}
	return strings.Join(words, " ")
}

// model is a registry, by the chapter's words: versions, in the order of registering; the first one is the root.
type model struct{ all []item }

type item struct {
	name, from api.Hash
	s          api.Schema
	l          api.Lens
}

// place is the number of a version; -1 of what is none.
func (m *model) place(v api.Hash) int {
	return slices.IndexFunc(m.all, func(x item) bool { return x.name == v })
}

// wrong is the error that a version can't be added by, and the target, if it can.
func (m *model) wrong(name, from api.Hash, l api.Lens) (api.Schema, api.Errno) {
	k := m.place(from)
	if k < 0 {
		return api.Schema{}, api.ErrNone
	}
	if m.place(name) >= 0 {
		return api.Schema{}, api.ErrTwice
	}
	t, e := lens.Target(l, m.all[k].s)
	return t, fault.Code(e)
}

// add registers a version, if nothing is wrong, and tells what is.
func (m *model) add(name, from api.Hash, l api.Lens) api.Errno {
	t, code := m.wrong(name, from, l)
	if code == api.OK {
		m.all = append(m.all, item{name, from, t, plainLens(l)})
	}
	return code
}

// copied is another model that is as this one.
func (m *model) copied() *model { return &model{slices.Clone(m.all)} }

// names are all versions'.
func (m *model) names() []api.Hash {
	var l []api.Hash
	for _, x := range m.all {
		l = append(l, x.name)
	}
	return l
}

// made tells whether the version with the number i was made of that with the number k.
func (m *model) made(i, k int) bool { return i > 0 && m.all[i].from == m.all[k].name }

// beside are the numbers of all versions beside one, in the order of registering.
func (m *model) beside(k int) []int {
	var l []int
	for i := range m.all {
		if m.made(i, k) || m.made(k, i) {
			l = append(l, i)
		}
	}
	return l
}

// path are the numbers of the versions through which one goes from one to another one, none twice; of what was gone through already none.
func (m *model) path(k, to int, gone []int) []int {
	gone = append(slices.Clone(gone), k)
	if k == to {
		return gone
	}
	for _, next := range m.beside(k) {
		if slices.Contains(gone, next) {
			continue
		}
		if l := m.path(next, to, gone); l != nil {
			return l
		}
	}
	return nil
}

// wantPath is the path from one version to another one.
func (m *model) wantPath(v, w api.Hash) []api.Hash {
	k, to := m.place(v), m.place(w)
	if k < 0 || to < 0 {
		return nil
	}
	var l []api.Hash
	for _, i := range m.path(k, to, nil) {
		l = append(l, m.all[i].name)
	}
	return l
}

// wantOut is the way out of a version: ring by ring, each of all beside the one before it.
func (m *model) wantOut(v api.Hash) []Edge {
	if m.place(v) < 0 {
		return nil
	}
	var way []Edge
	ring := []int{m.place(v)}
	reached := slices.Clone(ring)
	for len(ring) > 0 {
		var next []int
		for _, k := range ring {
			for _, i := range m.beside(k) {
				if !slices.Contains(reached, i) {
					next, reached = append(next, i), append(reached, i)
					way = append(way, Edge{m.all[k].name, m.all[i].name, m.made(i, k)})
				}
			}
		}
		ring = next
	}
	return way
}

// wantDepth: how many edges the path from the root has.
func (m *model) wantDepth(v api.Hash) int {
	if len(m.all) == 0 {
		return -1
	}
	return len(m.wantPath(m.all[0].name, v)) - 1
}

// wantRight: whether there may be a registry of this schema.
func wantRight(s api.Schema) bool { return schema.Right(s) && s.Kind == api.Record }

func sameSchema(a, b api.Schema) bool { return reflect.DeepEqual(plainOf(a), plainOf(b)) }

func sameLens(a, b api.Lens) bool { return reflect.DeepEqual(plainLens(a), plainLens(b)) }
