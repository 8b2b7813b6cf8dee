package dag

import (
	"slices"
	"testing"

	"dioptre/api"
	"dioptre/sample"
	"dioptre/trial"
)

// family is a store of three entries that are alone, children of two of them, and one behind these; named by letters.
func family(t *testing.T) (*Store, *model, map[string]api.Hash) {
	t.Helper()
	s, m := storeOf(t, 20)
	names := map[string]api.Hash{}
	add := func(name string, b []byte) {
		t.Helper()
		addAll(t, s, m, b)
		names[name] = nameOf(b)
	}
	add("a", writeBy(writer, 1))
	add("b", writeBy(writer, 2))
	add("c", writeBy(writer, 3))
	add("d", publishBy(admin, "d", names["a"], names["b"]))
	add("e", writeBy(writer, 4, names["b"]))
	add("f", writeBy(both, 5, names["a"], names["d"], names["e"]))
	return s, m, names
}

// TestAncestors: P19.3: those that are stored, their parents, and so on, each once, in the line's order; of none nothing.
func TestAncestors(t *testing.T) {
	s, m, n := family(t)
	unknown := sample.Hash(1, 2)
	for _, c := range []struct {
		name string
		l    []api.Hash
		want []api.Hash
	}{
		{"none", nil, nil},
		{"one that isn't stored", []api.Hash{unknown}, nil},
		{"the zero name", []api.Hash{{}}, nil},
		{"one without parents", []api.Hash{n["a"]}, []api.Hash{n["a"]}},
		{"one parent", []api.Hash{n["e"]}, []api.Hash{n["b"], n["e"]}},
		{"two parents", []api.Hash{n["d"]}, []api.Hash{n["a"], n["b"], n["d"]}},
		{"two, with one parent", []api.Hash{n["d"], n["e"]}, []api.Hash{n["a"], n["b"], n["d"], n["e"]}},
		{"the deepest one", []api.Hash{n["f"]}, []api.Hash{n["a"], n["b"], n["d"], n["e"], n["f"]}},
		{"twice", []api.Hash{n["e"], n["e"]}, []api.Hash{n["b"], n["e"]}},
		{"beside others", []api.Hash{unknown, n["c"], n["a"], unknown}, []api.Hash{n["a"], n["c"]}},
		{"all", []api.Hash{n["f"], n["e"], n["d"], n["c"], n["b"], n["a"]}, []api.Hash{n["a"], n["b"], n["c"], n["d"], n["e"], n["f"]}},
	} {
		checkAncestors(t, c.name, s, m, c.l...)
		if got := s.Ancestors(c.l...); !slices.Equal(sorted(got), sorted(c.want)) || len(got) != len(c.want) {
			t.Errorf("%s: %x, not %x", c.name, got, c.want)
		}
	}
	many := slices.Repeat([]api.Hash{n["f"], unknown, n["c"]}, 300000)
	if got := s.Ancestors(many...); len(got) != 6 {
		t.Errorf("very many: %x", got)
	}
}

// TestLadder: P19.3: by very many ways one comes to the same entries, each of which is told once, and soon.
func TestLadder(t *testing.T) {
	s, m := storeOf(t, 64)
	var last []api.Hash
	for id := uint64(1); id < 64; id += 2 {
		a, b := writeBy(writer, id, last...), writeBy(writer, id+1, last...)
		addAll(t, s, m, a, b)
		last = []api.Hash{nameOf(a), nameOf(b)}
	}
	checkStore(t, "a ladder", s, m)
	if s.Len() != 64 || s.Depth(last[0]) != 32 || len(s.Ancestors(last...)) != 64 || len(s.Heads()) != 2 {
		t.Errorf("Len %d, Depth %d, Ancestors %d", s.Len(), s.Depth(last[0]), len(s.Ancestors(last...)))
	}
}

// TestLine: P19.3: all marks, in the order of their depths, those of one depth in that of their names.
func TestLine(t *testing.T) {
	s, m, n := family(t)
	checkStore(t, "the family", s, m, sample.Hash(1, 2))
	l := s.Line()
	for i, want := range []int{1, 1, 1, 2, 2, 3} {
		if l[i].Depth != want || s.Depth(l[i].Id) != want {
			t.Errorf("the mark %d: %v", i, l[i])
		}
	}
	alone, children := sorted([]api.Hash{n["a"], n["b"], n["c"]}), sorted([]api.Hash{n["d"], n["e"]})
	if !slices.Equal(namesOf(l), slices.Concat(alone, children, []api.Hash{n["f"]})) {
		t.Errorf("Line: %v", l)
	}
	if got := s.Heads(); !slices.Equal(got, sorted([]api.Hash{n["c"], n["f"]})) {
		t.Errorf("Heads: %x", got)
	}
}

// TestDeepest: P19.3: the last heads of the line, told in the order of their names, which is another one.
func TestDeepest(t *testing.T) {
	s, m := storeOf(t, 20)
	root := writeBy(writer, 1)
	addAll(t, s, m, root)
	var flat []api.Hash
	for id := range uint64(5) {
		b := writeBy(writer, id+2)
		addAll(t, s, m, b)
		flat = append(flat, nameOf(b))
	}
	flat = sorted(flat)
	// A deeper head whose name is ahead of all others.
	deep := writeBy(writer, 10, nameOf(root))
	for id := uint64(11); !trial.Ahead(nameOf(deep), flat[0]); id++ {
		deep = writeBy(writer, id, nameOf(root))
	}
	addAll(t, s, m, deep)
	d := nameOf(deep)
	for n, want := range [][]api.Hash{nil, {d}, {d, flat[4]}, {d, flat[3], flat[4]}, {d, flat[2], flat[3], flat[4]}, {d, flat[1], flat[2], flat[3], flat[4]}, {d, flat[0], flat[1], flat[2], flat[3], flat[4]}} {
		if got := s.Deepest(n); !slices.Equal(got, want) {
			t.Errorf("Deepest of %d: %x, not %x", n, got, want)
		}
	}
	checkStore(t, "flat ones, and a deep one", s, m)
	if got := s.Heads(); !slices.Equal(got, append([]api.Hash{d}, flat...)) {
		t.Errorf("Heads: %x", got)
	}
}

// TestMissing: P19.3: the parents that lack, in order, of bytes of an entry, whoever has signed it, or nobody; none of what is stored, and of others.
func TestMissing(t *testing.T) {
	s, m, n := family(t)
	x, y := sample.Hash(0, 1), sample.Hash(255, 1)
	for name, seed := range map[string]api.Seed{"a writer": writer, "an admin": admin, "a stranger": stranger} {
		checkMissing(t, name, s, m, writeBy(seed, 9))
		checkMissing(t, name, s, m, writeBy(seed, 9, x), x)
		checkMissing(t, name, s, m, publishBy(seed, "z", y, x, n["a"], n["f"]), x, y)
		checkMissing(t, name, s, m, unsigned(publishBy(seed, "z", y, n["a"], x)), x, y)
		checkMissing(t, name, s, m, writeBy(seed, 9, n["a"], n["f"]))
	}
	checkMissing(t, "the zero name", s, m, writeBy(writer, 9, api.Hash{}), api.Hash{})
	b := writeBy(writer, 9, x, y)
	for k := range b {
		checkMissing(t, "cut off", s, m, b[:k])
	}
	checkMissing(t, "bytes are left", s, m, append(slices.Clone(b), 0))
	checkMissing(t, "too many", s, m, append(b, make([]byte, 4096)...))
	checkMissing(t, "no kind", s, m, append([]byte{0}, b[1:]...))
	checkMissing(t, "nothing", s, m, nil)
	empty, none := storeOf(t, 1)
	checkMissing(t, "an empty store", empty, none, b, x, y)
	// A full store, too, tells what lacks.
	addAll(t, empty, none, writeBy(writer, 1))
	checkMissing(t, "a full store", empty, none, b, x, y)
}

// TestNil: P19.3: a nil store has nothing, and takes nothing.
func TestNil(t *testing.T) {
	var s *Store
	b := writeBy(writer, 1, sample.Hash(1, 1))
	for name, b := range map[string][]byte{"an entry": b, "without parents": writeBy(writer, 1), "nothing": nil, "no entry": {9}, "too many": make([]byte, 5000)} {
		mark, err := s.Add(b)
		trial.Error(t, "Add of "+name, err, noPlace(api.ErrState))
		if mark != (api.Mark{}) {
			t.Errorf("Add of %s: %v", name, mark)
		}
	}
	checkMissing(t, "nil", s, &model{}, b)
	checkStore(t, "nil", s, &model{}, api.Hash{}, nameOf(b))
	if s.Has(nameOf(b)) || s.Len() != 0 || len(s.Line())+len(s.Heads())+len(s.Deepest(4))+len(s.Ancestors(nameOf(b))) > 0 || !sameGenesis(s.Genesis(), api.Genesis{}) {
		t.Error("a nil store has something")
	}
}

// TestOwn: what is handed in isn't kept, and what is told is new each time.
func TestOwn(t *testing.T) {
	s, m, n := family(t)
	lost := writeBy(writer, 9, sample.Hash(1, 1), n["a"], sample.Hash(2, 2))
	for range 2 {
		for _, h := range n {
			b, _ := s.Bytes(h)
			clear(b[:cap(b)])
			e, _ := s.Entry(h)
			sample.ScrambleEntry(e)
			overwrite(s.Ancestors(h))
		}
		overwrite(s.Heads())
		overwrite(s.Deepest(1))
		overwrite(s.Deepest(9))
		overwrite(s.Missing(lost))
		l := s.Line()
		for i := range l[:cap(l)] {
			l[:cap(l)][i] = api.Mark{Depth: 77}
		}
		scrambleGenesis(s.Genesis())
		checkStore(t, "overwritten", s, m)
		checkMissing(t, "overwritten", s, m, lost, sorted([]api.Hash{sample.Hash(1, 1), sample.Hash(2, 2)})...)
	}
	// Several answers, side by side.
	b, _ := s.Bytes(n["f"])
	kept := slices.Clone(b)
	e, _ := s.Entry(n["f"])
	parents := slices.Clone(e.Parents)
	again, _ := s.Bytes(n["f"])
	clear(again)
	other, _ := s.Entry(n["f"])
	overwrite(other.Parents)
	if !slices.Equal(b, kept) || !slices.Equal(e.Parents, parents) {
		t.Error("two answers share")
	}
}
