package dag

import (
	"crypto/sha256"
	"math/rand/v2"
	"reflect"
	"slices"
	"testing"

	"dioptre/api"
	"dioptre/entry"
	"dioptre/fault"
	"dioptre/line"
	"dioptre/sample"
	"dioptre/schema"
	"dioptre/sign"
	"dioptre/trial"
)

// chance makes numbers, always the same ones.
func chance() *rand.Rand { return rand.New(rand.NewPCG(19, 2026)) }

// What the tests are made of.
var (
	of, listOf, recordOf            = sample.Of, sample.ListOf, sample.RecordOf
	plain, overwrite                = sample.PlainEntry, sample.ScrambleHashes
	writer, admin, both, stranger   = api.Seed{1}, api.Seed{2}, api.Seed{3}, api.Seed{4}
	writerKey, adminKey, bothKey, _ = sign.Public(writer), sign.Public(admin), sign.Public(both), sign.Public(stranger)
)

// noPlace is an error that has no place.
func noPlace(code api.Errno) trial.Wrong { return trial.Wrong{Code: code, Place: -1} }

// genesisOf is a right genesis of so many entries: a writer, an admin, and one who is both.
func genesisOf(most int) api.Genesis {
	return api.Genesis{Root: recordOf([]string{"a"}, of(api.Int)), Writers: []api.Key{writerKey, bothKey}, Admins: []api.Key{bothKey, adminKey}, Most: most, Wait: 2}
}

// storeOf is a store of that genesis, and its model.
func storeOf(t *testing.T, most int) (*Store, *model) {
	t.Helper()
	s, err := New(genesisOf(most))
	if err != nil {
		t.Fatal("New:", err)
	}
	return s, &model{g: genesisOf(most)}
}

// signedBy is the bytes of an entry that a seed has signed, of which the test is sure.
func signedBy(seed api.Seed, e api.Entry) []byte {
	e.Parents = entry.Sort(e.Parents...)
	e, err := entry.Sign(seed, e)
	b, err2 := entry.Encode(e)
	if err != nil || err2 != nil {
		panic("no right entry")
	}
	return b
}

// writeBy is the bytes of a Write, publishBy that of a Publish; the number, and the field, tell one from the other.
func writeBy(seed api.Seed, id uint64, parents ...api.Hash) []byte {
	return signedBy(seed, api.Entry{Kind: api.Write, Parents: parents, Op: sample.Delete(nil, id)})
}

func publishBy(seed api.Seed, field string, parents ...api.Hash) []byte {
	return signedBy(seed, api.Entry{Kind: api.Publish, Parents: parents, Lens: sample.Wrap(field)})
}

// nameOf is the name of bytes, told by the library.
func nameOf(b []byte) api.Hash { return sha256.Sum256(b) }

// model is a store, by the chapter's words: entries, in the order in which they came.
type model struct {
	g   api.Genesis
	all []item
}

type item struct {
	name  api.Hash
	b     []byte
	e     api.Entry
	depth int
}

// find is the entry of that name; zero, if there is none.
func (m *model) find(h api.Hash) (item, bool) {
	for _, x := range m.all {
		if x.name == h {
			return x, true
		}
	}
	return item{}, false
}

// lacking are those names of which there is no entry.
func (m *model) lacking(l []api.Hash) []api.Hash {
	var none []api.Hash
	for _, h := range l {
		if _, ok := m.find(h); !ok {
			none = append(none, h)
		}
	}
	return none
}

// wrong is why bytes aren't stored.
func (m *model) wrong(b []byte) trial.Wrong {
	e, err := entry.Decode(b)
	if err != nil {
		return trial.Wrong{Code: fault.Code(err), Place: fault.Place(err)}
	}
	may := m.g.Writers
	if e.Kind == api.Publish {
		may = m.g.Admins
	}
	_, twice := m.find(nameOf(b))
	switch {
	case twice:
		return noPlace(api.ErrTwice)
	case !slices.Contains(may, e.Key):
		return noPlace(api.ErrKey)
	case !entry.Signed(e):
		return noPlace(api.ErrSign)
	case len(m.lacking(e.Parents)) > 0:
		return noPlace(api.ErrParent)
	case len(m.all) == m.g.Most:
		return noPlace(api.ErrFull)
	}
	return trial.Wrong{}
}

// add stores bytes, if nothing is wrong, and tells the mark, or what is.
func (m *model) add(b []byte) (api.Mark, trial.Wrong) {
	if w := m.wrong(b); w.Code != api.OK {
		return api.Mark{}, w
	}
	e, _ := entry.Decode(b)
	x := item{nameOf(b), slices.Clone(b), e, 1}
	for _, h := range e.Parents {
		parent, _ := m.find(h)
		x.depth = max(x.depth, parent.depth+1)
	}
	m.all = append(m.all, x)
	return api.Mark{Depth: x.depth, Id: x.name}, trial.Wrong{}
}

// line is the line of the entries that are wanted.
func (m *model) line(wanted func(x item) bool) []api.Mark {
	var l []api.Mark
	for _, x := range m.all {
		if wanted(x) {
			l = append(l, api.Mark{Depth: x.depth, Id: x.name})
		}
	}
	return trial.Sorted(l, line.Less)
}

// heads is the line of those that are nobody's parent.
func (m *model) heads() []api.Mark {
	return m.line(func(x item) bool {
		return !slices.ContainsFunc(m.all, func(y item) bool { return slices.Contains(y.e.Parents, x.name) })
	})
}

// ancestors is the line of those of these names, of their parents, and so on, by going on till nothing more comes.
func (m *model) ancestors(l []api.Hash) []api.Mark {
	reached := map[api.Hash]bool{}
	for _, h := range l {
		reached[h] = true
	}
	for range m.all {
		for _, x := range m.all {
			for _, h := range x.e.Parents {
				reached[h] = reached[h] || reached[x.name]
			}
		}
	}
	return m.line(func(x item) bool { return reached[x.name] })
}

// namesOf are marks' names.
func namesOf(l []api.Mark) []api.Hash {
	var names []api.Hash
	for _, m := range l {
		names = append(names, m.Id)
	}
	return names
}

// sorted are names in their order.
func sorted(l []api.Hash) []api.Hash { return trial.Sorted(l, trial.Ahead) }

// plainGenesis is the same genesis, all lists of which are its own; those without elements are none.
func plainGenesis(g api.Genesis) api.Genesis {
	g.Root, g.Writers, g.Admins = sample.PlainSchema(g.Root), append([]api.Key(nil), g.Writers...), append([]api.Key(nil), g.Admins...)
	return g
}

func sameGenesis(a, b api.Genesis) bool {
	return reflect.DeepEqual(plainGenesis(a), plainGenesis(b))
}

// wantRight: whether a genesis is right, by the chapter's words.
func wantRight(g api.Genesis) bool {
	b, err := schema.Encode(g.Root)
	ok := err == nil && len(b) <= 4096 && g.Root.Kind == api.Record && len(g.Writers) < 9 && len(g.Admins) < 9
	for _, k := range slices.Concat(g.Writers, g.Admins) {
		ok = ok && sign.Known(k)
	}
	return ok && g.Most > 0 && g.Most < 65 && g.Wait > -1 && g.Wait < 33
}

// wantRoot: a genesis's name, by the chapter's words.
func wantRoot(g api.Genesis) api.Hash {
	if !wantRight(g) {
		return api.Hash{}
	}
	b, _ := schema.Encode(g.Root)
	for _, keys := range [][]api.Key{g.Writers, g.Admins} {
		b = append(b, byte(len(keys)))
		for _, k := range keys {
			b = append(b, k[:]...)
		}
	}
	return sha256.Sum256(b)
}
