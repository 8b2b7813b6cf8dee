package dag

import (
	"slices"
	"strconv"
	"testing"

	"dioptre/api"
	"dioptre/entry"
	"dioptre/sample"
	"dioptre/trial"
)

// addAll adds bytes, all of which are stored.
func addAll(t *testing.T, s *Store, m *model, l ...[]byte) {
	t.Helper()
	for i, b := range l {
		if code := checkAdd(t, "that is right, "+strconv.Itoa(i), s, m, b); code != api.OK {
			t.Fatalf("the model refuses %x: %d", b, code)
		}
	}
}

// refused: bytes aren't stored, by just that error, and all stays as it was.
func refused(t *testing.T, name string, s *Store, m *model, b []byte, code api.Errno) {
	t.Helper()
	if got := checkAdd(t, name, s, m, b); got != code {
		t.Errorf("%s: the model tells %d, not %d", name, got, code)
	}
	checkStore(t, name, s, m, nameOf(b))
}

// unsigned are bytes whose signature is another one.
func unsigned(b []byte) []byte {
	b = slices.Clone(b)
	b[len(b)-1] ^= 1
	return b
}

// TestAdd: P19.2: an entry without parents, and such with one and several parents, of like and unlike depths; each is told by its mark.
func TestAdd(t *testing.T) {
	s, m := storeOf(t, 9)
	checkStore(t, "empty", s, m, api.Hash{})
	root := writeBy(writer, 1)
	a, b := publishBy(admin, "a", nameOf(root)), writeBy(both, 2, nameOf(root))
	c := writeBy(writer, 3, nameOf(a), nameOf(b))
	d := publishBy(both, "d", nameOf(root), nameOf(c))
	other := writeBy(writer, 4)
	e := writeBy(writer, 5, nameOf(root), nameOf(a), nameOf(d), nameOf(other))
	for i, x := range []struct {
		b     []byte
		depth int
	}{{root, 1}, {a, 2}, {b, 2}, {c, 3}, {d, 4}, {other, 1}, {e, 5}} {
		mark, err := s.Add(x.b)
		if err != nil || mark != (api.Mark{Depth: x.depth, Id: nameOf(x.b)}) {
			t.Errorf("Add of %d: %v %v", i, mark, err)
		}
		m.add(x.b)
		checkStore(t, strconv.Itoa(i)+" stored", s, m, nameOf(e), nameOf(nil))
	}
	if len(m.all) != 7 {
		t.Error("the model has", len(m.all))
	}
}

// faulty is bytes of an entry of that kind that has these faults.
func faulty(kind int, key, sign, parent bool, parents ...api.Hash) []byte {
	seed := []api.Seed{writer, admin}[kind-api.Write]
	if key {
		// Who may sign the one kind mayn't sign the other one.
		seed = []api.Seed{admin, writer}[kind-api.Write]
	}
	if parent {
		parents = append(slices.Clone(parents), sample.Hash(200, 201))
	}
	b := writeBy(seed, 50, parents...)
	if kind == api.Publish {
		b = publishBy(seed, "f", parents...)
	}
	if sign {
		return unsigned(b)
	}
	return b
}

// TestAddErrors: P19.2: of several errors that one which the chapter names first; nothing changes by it.
func TestAddErrors(t *testing.T) {
	first, second := writeBy(writer, 1), publishBy(admin, "a")
	for _, most := range []int{2, 3} {
		s, m := storeOf(t, most)
		addAll(t, s, m, first, second)
		for faults := range 8 {
			key, sign, parent := faults&1 > 0, faults&2 > 0, faults&4 > 0
			code := api.OK
			switch {
			case key:
				code = api.ErrKey
			case sign:
				code = api.ErrSign
			case parent:
				code = api.ErrParent
			case most == 2:
				code = api.ErrFull
			default:
				continue
			}
			for _, kind := range []int{api.Write, api.Publish} {
				name := "kind " + strconv.Itoa(kind) + ", Most " + strconv.Itoa(most) + ", faults " + strconv.Itoa(faults)
				b := faulty(kind, key, sign, parent, nameOf(first), nameOf(second))
				refused(t, name, s, m, b, code)
				refused(t, name+", one byte fewer", s, m, b[:len(b)-1], api.ErrForm)
				refused(t, name+", too many", s, m, append(b, make([]byte, 4096)...), api.ErrLong)
			}
		}
		for _, b := range [][]byte{first, second} {
			refused(t, "twice", s, m, b, api.ErrTwice)
			refused(t, "twice, but its signature", s, m, unsigned(b), api.ErrSign)
		}
	}
}

// TestAddKinds: P19.2: a Write by one of the Writers, a Publish by one of the Admins, and by nobody else.
func TestAddKinds(t *testing.T) {
	all := []api.Seed{writer, admin, both, stranger}
	keys := map[api.Seed]api.Key{writer: writerKey, admin: adminKey, both: bothKey}
	for _, c := range []struct {
		name            string
		writers, admins []api.Seed
	}{
		{"two of each", []api.Seed{writer, both}, []api.Seed{admin, both}}, {"none", nil, nil}, {"no writers", nil, []api.Seed{writer, admin}}, {"no admins", []api.Seed{admin, writer}, nil},
		{"one writer", []api.Seed{writer}, nil}, {"one admin", nil, []api.Seed{writer}}, {"the last of several", []api.Seed{both, both, writer}, []api.Seed{both, both, both, admin}},
	} {
		g := genesisOf(64)
		g.Writers, g.Admins = nil, nil
		for _, seed := range c.writers {
			g.Writers = append(g.Writers, keys[seed])
		}
		for _, seed := range c.admins {
			g.Admins = append(g.Admins, keys[seed])
		}
		s, _ := New(g)
		m := &model{g: g}
		for i, seed := range all {
			code := checkAdd(t, c.name+", a Write", s, m, writeBy(seed, uint64(i+1)))
			if (code == api.OK) != slices.Contains(c.writers, seed) || code != api.OK && code != api.ErrKey {
				t.Errorf("%s: a Write by %d: the model tells %d", c.name, i, code)
			}
			code = checkAdd(t, c.name+", a Publish", s, m, publishBy(seed, "p"+strconv.Itoa(i)))
			if (code == api.OK) != slices.Contains(c.admins, seed) || code != api.OK && code != api.ErrKey {
				t.Errorf("%s: a Publish by %d: the model tells %d", c.name, i, code)
			}
		}
		checkStore(t, c.name, s, m)
	}
}

// TestAddUnsigned: P19.2: entries that nobody has signed, that another one has, or of which something is another one: each bit is changed.
func TestAddUnsigned(t *testing.T) {
	s, m := storeOf(t, 9)
	root := writeBy(writer, 1)
	addAll(t, s, m, root)
	e, _ := entry.Decode(writeBy(writer, 2, nameOf(root)))
	other, _ := entry.Decode(writeBy(both, 2, nameOf(root)))
	for name, change := range map[string]func(e *api.Entry){
		"no signature":         func(e *api.Entry) { e.Sig = api.Sig{} },
		"another key":          func(e *api.Entry) { e.Key = bothKey },
		"another signature":    func(e *api.Entry) { e.Sig = other.Sig },
		"no parents":           func(e *api.Entry) { e.Parents = nil },
		"another parent":       func(e *api.Entry) { e.Parents = []api.Hash{{1}} },
		"another operation":    func(e *api.Entry) { e.Op.Id = 3 },
		"another version":      func(e *api.Entry) { e.Version = api.Hash{1} },
		"an admin's, as it is": func(e *api.Entry) { e.Kind, e.Op, e.Lens, e.Key = api.Publish, api.Op{}, sample.Wrap("a"), bothKey },
	} {
		x := plain(e)
		change(&x)
		b, err := entry.Encode(x)
		if err != nil {
			t.Fatal(name, err)
		}
		refused(t, name, s, m, b, api.ErrSign)
	}
	b, _ := entry.Encode(e)
	for i := range 8 * len(b) {
		x := slices.Clone(b)
		x[i/8] ^= 1 << (i % 8)
		if code := checkAdd(t, "a bit", s, m, x); code == api.OK {
			t.Fatalf("the bit %d says nothing", i)
		}
	}
	checkStore(t, "the bits", s, m, nameOf(b))
	addAll(t, s, m, b)
}

// TestAddBytes: P19.2: bytes of no entry: Decode's error, in its place.
func TestAddBytes(t *testing.T) {
	s, m := storeOf(t, 9)
	b := writeBy(writer, 1, sample.Hash(1, 1), sample.Hash(2, 2))
	for n := range b {
		refused(t, "cut off", s, m, b[:n], api.ErrForm)
	}
	refused(t, "bytes are left", s, m, append(slices.Clone(b), 0), api.ErrForm)
	refused(t, "no kind", s, m, append([]byte{3}, b[1:]...), api.ErrKind)
	five := slices.Clone(b)
	five[33] = 5
	refused(t, "five parents", s, m, five, api.ErrLong)
	fall := slices.Clone(b)
	fall[34] = 9
	refused(t, "parents that fall", s, m, fall, api.ErrForm)
	refused(t, "too many", s, m, append(b, make([]byte, 4097-len(b))...), api.ErrLong)
	refused(t, "very many", s, m, make([]byte, 1000000), api.ErrLong)
	_, err := s.Add(five)
	trial.Error(t, "five parents", err, trial.Wrong{Code: api.ErrLong, Place: 34})
	_, err = s.Add(b[:40])
	trial.Error(t, "cut off", err, trial.Wrong{Code: api.ErrForm, Place: 34})
	_, err = s.Add(make([]byte, 4097))
	trial.Error(t, "too many", err, noPlace(api.ErrLong))
	checkStore(t, "of no entries", s, m, nameOf(b))
}

// TestAddParents: P19.2: which of the parents lacks doesn't count; what lacks once may come later, and then what lacked it.
func TestAddParents(t *testing.T) {
	s, m := storeOf(t, 9)
	l := [][]byte{writeBy(writer, 1), writeBy(writer, 2), writeBy(writer, 3), writeBy(writer, 4)}
	var parents []api.Hash
	for _, b := range l {
		parents = append(parents, nameOf(b))
	}
	child := publishBy(admin, "a", parents...)
	grandchild := writeBy(writer, 5, nameOf(child))
	for faults := range 15 {
		s, m := storeOf(t, 9)
		var lack []api.Hash
		for i, b := range l {
			if faults&(1<<i) > 0 {
				addAll(t, s, m, b)
			} else {
				lack = append(lack, nameOf(b))
			}
		}
		refused(t, "parents lack", s, m, child, api.ErrParent)
		checkMissing(t, "parents lack", s, m, child, sorted(lack)...)
		checkMissing(t, "parents lack", s, m, grandchild, nameOf(child))
	}
	for _, b := range l {
		refused(t, "a parent lacks", s, m, child, api.ErrParent)
		refused(t, "it lacks, too", s, m, grandchild, api.ErrParent)
		addAll(t, s, m, b)
	}
	refused(t, "the child lacks", s, m, grandchild, api.ErrParent)
	addAll(t, s, m, child, grandchild)
	checkStore(t, "all", s, m)
	// A version isn't a parent: it needn't be there.
	e := api.Entry{Kind: api.Write, Version: sample.Hash(5, 5), Op: sample.Delete(nil, 1)}
	addAll(t, s, m, signedBy(writer, e))
}

// TestFull: P19.2, P19.4: a store takes as many entries as its genesis says, and no more, whatever comes.
func TestFull(t *testing.T) {
	for _, most := range []int{1, 2, 64} {
		s, m := storeOf(t, most)
		var last []api.Hash
		var first []byte
		for i := range most {
			b := writeBy(writer, uint64(i+1), last...)
			if i == 0 {
				first = b
			}
			addAll(t, s, m, b)
			last = []api.Hash{nameOf(b)}
		}
		for name, b := range map[string][]byte{"behind": writeBy(writer, 100, last...), "alone": writeBy(both, 101), "a Publish": publishBy(admin, "a", last...)} {
			refused(t, name, s, m, b, api.ErrFull)
		}
		refused(t, "twice", s, m, first, api.ErrTwice)
		if s.Len() != most || s.Depth(last[0]) != most {
			t.Errorf("Most %d: Len %d, Depth %d", most, s.Len(), s.Depth(last[0]))
		}
	}
}

// TestLarge: P19.2: an entry of as many bytes as may be.
func TestLarge(t *testing.T) {
	s, m := storeOf(t, 3)
	large := func(n int) []byte {
		return signedBy(writer, api.Entry{Kind: api.Write, Op: sample.Set(nil, sample.Large(n))})
	}
	b := large(4096 - len(large(2000)) + 2000)
	if len(b) != 4096 {
		t.Fatal(len(b))
	}
	addAll(t, s, m, b)
	refused(t, "one more", s, m, append(slices.Clone(b), 0), api.ErrLong)
}
