package view

import (
	"encoding/binary"
	"math/rand/v2"
	"reflect"
	"slices"
	"testing"

	"dioptre/api"
	"dioptre/dag"
	"dioptre/lens"
	"dioptre/op"
	"dioptre/registry"
	"dioptre/restore"
	"dioptre/sample"
	"dioptre/schema"
	"dioptre/sign"
	"dioptre/told"
)

// chance makes numbers, always the same ones.
func chance() *rand.Rand { return rand.New(rand.NewPCG(21, 2026)) }

// What the tests are made of.
var (
	of, listOf, recordOf         = sample.Of, sample.ListOf, sample.RecordOf
	num, steps                   = sample.Num, sample.Steps
	rename, add, wrap            = sample.Rename, sample.Add, sample.Wrap
	set, insert, remove, move    = sample.Set, sample.Insert, sample.Delete, sample.Move
	text, doc, plainOf, plainVal = told.Text, told.Doc, sample.PlainSchema, sample.Plain
)

// genesisOf is a right genesis of that root.
func genesisOf(root api.Schema) api.Genesis {
	return api.Genesis{Root: root, Writers: []api.Key{sign.Public(api.Seed{1})}, Most: 9, Wait: 2}
}

// one is the record of a number a, sheet that of some fields.
func one() api.Schema { return recordOf([]string{"a"}, of(api.Int)) }

func sheet() api.Schema {
	return recordOf([]string{"a", "l", "m", "r"}, of(api.Int), listOf(of(api.Int)), listOf(one()), recordOf([]string{"n"}, of(api.Bool)))
}

// named is the name whose seed is that number.
func named(n byte) api.Hash { return api.Hash{7: n} }

// publish is a Publish, write a Write.
func publish(from api.Hash, l api.Lens) api.Entry {
	return api.Entry{Kind: api.Publish, Version: from, Lens: l}
}

func write(at api.Hash, o api.Op) api.Entry {
	return api.Entry{Kind: api.Write, Version: at, Op: o}
}

// setTo is a Write of a value, told as a text, at a path.
func setTo(at api.Hash, value string, path ...any) api.Entry {
	return write(at, set(steps(path...), doc(value)))
}

// model is views, by the chapter's words: entries in their order; of these all is told anew each time.
type model struct {
	root api.Hash
	s    api.Schema
	all  []item
}

type item struct {
	name api.Hash
	e    api.Entry
}

// come lets an entry come in.
func (m *model) come(k int, name api.Hash, e api.Entry) {
	m.all = slices.Insert(m.all, k, item{name, sample.PlainEntry(e)})
}

// version is a version, and what it sees; of the root from and lens are zero.
type version struct {
	name, from api.Hash
	l          api.Lens
	s          api.Schema
	doc        api.Value
}

// versions are all versions, in the order of registering, the root first.
type versions []version

// views are what the entries make.
func (m *model) views() versions {
	l := versions{{name: m.root, s: m.s, doc: schema.Default(m.s)}}
	for _, x := range m.all {
		if x.e.Kind == api.Publish {
			l = l.publish(x)
		} else {
			l.write(x)
		}
	}
	return l
}

// place is the number of a version; -1 of what is none.
func (l versions) place(name api.Hash) int {
	return slices.IndexFunc(l, func(x version) bool { return x.name == name })
}

// names are all versions'.
func (l versions) names() []api.Hash {
	var names []api.Hash
	for _, x := range l {
		names = append(names, x.name)
	}
	return names
}

// seed is the number of a name's first 8 bytes.
func seed(h api.Hash) uint64 { return binary.BigEndian.Uint64(h[:8]) }

// publish is these versions, and that which comes, if it may.
func (l versions) publish(x item) versions {
	k := l.place(x.e.Version)
	if k < 0 || l.place(x.name) >= 0 {
		return l
	}
	s, err := lens.Target(x.e.Lens, l[k].s)
	if err != nil {
		return l
	}
	first, _ := restore.First(x.e.Lens, l[k].s)
	d, _ := restore.Forward(x.e.Lens, l[k].s, l[k].doc, first, seed(x.name))
	return append(l, version{x.name, x.e.Version, x.e.Lens, s, d})
}

// write changes what versions see.
func (l versions) write(x item) {
	k := l.place(x.e.Version)
	if k < 0 || op.Check(x.e.Op, l[k].s) != nil {
		return
	}
	l[k].doc = op.Apply(l[k].s, l[k].doc, x.e.Op)
	l.spread(k, -1, seed(x.name))
}

// made tells whether the version with the number i was made of that with the number k.
func (l versions) made(i, k int) bool { return i > 0 && l[i].from == l[k].name }

// spread goes from a version to all beside it but that from which one came, and on from these: versions are a tree, so each of them is reached once, by its one path.
func (l versions) spread(k, came int, seed uint64) {
	for i := range l {
		if i == came {
			continue
		}
		if l.made(i, k) {
			l[i].doc, _ = restore.Forward(l[i].l, l[k].s, l[k].doc, l[i].doc, seed)
		} else if l.made(k, i) {
			l[i].doc, _ = restore.Back(l[k].l, l[i].s, l[k].doc, l[i].doc, seed)
		} else {
			continue
		}
		l.spread(i, k, seed)
	}
}

// registry is the registry of these versions.
func (l versions) registry(t *testing.T) *registry.Registry {
	t.Helper()
	r, e := registry.New(l[0].name, l[0].s)
	for _, x := range l[1:] {
		if e == nil {
			e = r.Add(x.name, x.from, x.l)
		}
	}
	if e != nil {
		t.Fatal("no registry:", e)
	}
	return r
}

// viewsOf are the views of no entries, and their model.
func viewsOf(t *testing.T, root api.Schema, every int) (*Views, *model) {
	t.Helper()
	g := genesisOf(root)
	v, e := New(g, every)
	if e != nil || v == nil {
		t.Fatalf("New of %s, %d: %v", told.Schema(root), every, e)
	}
	return v, &model{root: dag.Root(g), s: plainOf(root)}
}

func same(v, w api.Value) bool { return reflect.DeepEqual(plainVal(v), plainVal(w)) }

func sameSchema(a, b api.Schema) bool { return reflect.DeepEqual(plainOf(a), plainOf(b)) }

func sameLens(a, b api.Lens) bool {
	return reflect.DeepEqual(sample.PlainLens(a), sample.PlainLens(b))
}
