package dag

import (
	"encoding/hex"
	"math"
	"math/rand/v2"
	"slices"
	"testing"

	"dioptre/api"
	"dioptre/sample"
	"dioptre/trial"
)

// Keys beside that of a seed: the points 0 and those of y = 0 have bytes, too; others are no point's.
var (
	zeroKey, oneKey = api.Key{}, api.Key{1}
	noKeys          = []api.Key{{2}, {31: 255}, {0: 255, 31: 255}}
)

// eightKeys are as many; some stand twice.
func eightKeys() []api.Key {
	return []api.Key{writerKey, zeroKey, adminKey, writerKey, oneKey, bothKey, {}, adminKey}
}

// changed is the genesis of the other tests, in which something is another one.
func changed(change func(g *api.Genesis)) api.Genesis {
	g := genesisOf(7)
	change(&g)
	return g
}

// rightGeneses are right, by name.
func rightGeneses() map[string]api.Genesis {
	return map[string]api.Genesis{
		"plain":      genesisOf(7),
		"least":      {Root: recordOf(nil), Most: 1},
		"greatest":   {Root: sample.LargeSchema(4096), Writers: eightKeys(), Admins: eightKeys(), Most: 64, Wait: 32},
		"Most 1":     changed(func(g *api.Genesis) { g.Most = 1 }),
		"Most 64":    changed(func(g *api.Genesis) { g.Most = 64 }),
		"Wait 0":     changed(func(g *api.Genesis) { g.Wait = 0 }),
		"Wait 32":    changed(func(g *api.Genesis) { g.Wait = 32 }),
		"no writers": changed(func(g *api.Genesis) { g.Writers = nil }),
		"no admins":  changed(func(g *api.Genesis) { g.Admins = []api.Key{} }),
		"like keys":  changed(func(g *api.Genesis) { g.Writers, g.Admins = []api.Key{adminKey, adminKey}, []api.Key{adminKey} }),
		"keys fall":  changed(func(g *api.Genesis) { g.Writers = []api.Key{oneKey, zeroKey} }),
		"five deep":  changed(func(g *api.Genesis) { g.Root = recordOf([]string{"a"}, listOf(listOf(listOf(of(api.Int))))) }),
		"a Root without elements": changed(func(g *api.Genesis) {
			g.Root = api.Schema{Kind: api.Record, Words: []string{}, Parts: []api.Schema{}}
		}),
	}
}

// wrongGeneses aren't right, by name.
func wrongGeneses() map[string]api.Genesis {
	ring := listOf(of(api.Int))
	ring.Parts[0] = ring
	m := map[string]api.Genesis{"zero": {}, "Most, Wait": {Most: 7, Wait: 2}}
	for name, root := range map[string]api.Schema{
		"none": {}, "Int": of(api.Int), "Text": of(api.Text), "Bool": of(api.Bool), "Enum": of(api.Enum, "a"), "List": listOf(of(api.Int)), "a list of a record": listOf(recordOf([]string{"a"}, of(api.Int))), "kind 7": {Kind: 7},
		"kind 261": {Kind: 261}, "an enum's words": {Kind: api.Record, Words: []string{"a"}}, "names that fall": recordOf([]string{"b", "a"}, of(api.Int), of(api.Int)), "a great name": recordOf([]string{"A"}, of(api.Int)), "a part of no kind": recordOf([]string{"a"}, api.Schema{}),
		"six deep": recordOf([]string{"a"}, listOf(listOf(listOf(listOf(of(api.Int)))))), "4097 bytes": sample.LargeSchema(4097), "4100 bytes": sample.LargeSchema(4100), "a ring": recordOf([]string{"a"}, ring),
	} {
		m["Root: "+name] = changed(func(g *api.Genesis) { g.Root = root })
	}
	for name, n := range map[string]int{"0": 0, "-1": -1, "65": 65, "the least": math.MinInt, "the greatest": math.MaxInt, "2^32 + 1": 1<<32 + 1} {
		m["Most: "+name] = changed(func(g *api.Genesis) { g.Most = n })
	}
	for name, n := range map[string]int{"-1": -1, "33": 33, "64": 64, "the least": math.MinInt, "the greatest": math.MaxInt, "2^32": 1 << 32} {
		m["Wait: "+name] = changed(func(g *api.Genesis) { g.Wait = n })
	}
	keys := map[string][]api.Key{"nine": append(eightKeys(), zeroKey), "very many": make([]api.Key, 1000000), "very many that are none": slices.Repeat(noKeys, 100000)}
	for i, k := range noKeys {
		n := string(rune('0' + i))
		keys["none "+n], keys["none first "+n], keys["none last "+n] = []api.Key{k}, append([]api.Key{k}, eightKeys()[1:]...), append(eightKeys()[:7], k)
	}
	for name, l := range keys {
		m["Writers: "+name] = changed(func(g *api.Genesis) { g.Writers = l })
		m["Admins: "+name] = changed(func(g *api.Genesis) { g.Admins = l })
	}
	return m
}

// checkGenesis: Right, Root and New tell of a genesis what the model tells.
func checkGenesis(t *testing.T, name string, g api.Genesis, want bool) {
	t.Helper()
	if Right(g) != want || wantRight(g) != want {
		t.Errorf("%s: Right tells %v, the model %v", name, Right(g), wantRight(g))
	}
	if got := Root(g); got != wantRoot(g) || (got == api.Hash{}) == want {
		t.Errorf("%s: Root: %x, not %x", name, got, wantRoot(g))
	}
	s, err := New(g)
	if !want {
		trial.Error(t, name+": New", err, noPlace(api.ErrArg))
		if s != nil {
			t.Errorf("%s: New: a store beside an error", name)
		}
		return
	}
	if err != nil || s == nil {
		t.Fatalf("%s: New: %v", name, err)
	}
	checkStore(t, name, s, &model{g: g}, api.Hash{}, Root(g))
}

// TestRight: P19.1: all that is named, as it may be and as it may not; of what isn't right there is no name and no store.
func TestRight(t *testing.T) {
	for name, g := range rightGeneses() {
		checkGenesis(t, name, g, true)
	}
	for name, g := range wrongGeneses() {
		checkGenesis(t, name, g, false)
	}
}

// TestRoot: P19.1: names that were told by another program; what counts, and where it stands, and that Most and Wait don't.
func TestRoot(t *testing.T) {
	for _, c := range []struct {
		g    api.Genesis
		want string
	}{
		{api.Genesis{Root: recordOf(nil), Most: 1}, "2594b6a92ebfb1c3312deb7d01c015fb95e9fbe9bd7bc6b527af07813ec7b910"},
		{api.Genesis{Root: recordOf([]string{"a"}, of(api.Int)), Writers: []api.Key{{1}}, Admins: []api.Key{{}, {1}}, Most: 7, Wait: 2}, "93dfe4f84aa51c48ed16b34685a53baeb21e13d16cca810c06a68e5a68950e5c"},
	} {
		if h := Root(c.g); hex.EncodeToString(h[:]) != c.want {
			t.Errorf("Root of %v: %x", c.g, h)
		}
	}
	names := map[api.Hash]string{}
	for name, g := range rightGeneses() {
		g.Most, g.Wait = 64, 0
		wait := Root(g)
		g.Most, g.Wait = 1, 32
		if Root(g) != wait {
			t.Errorf("%s: Most and Wait count", name)
		}
	}
	for name, change := range map[string]func(g *api.Genesis){
		"it":                   func(g *api.Genesis) {},
		"a name":               func(g *api.Genesis) { g.Root.Words = []string{"b"} },
		"a part":               func(g *api.Genesis) { g.Root.Parts = []api.Schema{of(api.Bool)} },
		"writers turned about": func(g *api.Genesis) { g.Writers = []api.Key{bothKey, writerKey} },
		"admins turned about":  func(g *api.Genesis) { g.Admins = []api.Key{adminKey, bothKey} },
		"a writer fewer":       func(g *api.Genesis) { g.Writers = []api.Key{writerKey} },
		"an admin fewer":       func(g *api.Genesis) { g.Admins = []api.Key{bothKey} },
		"a writer, an admin": func(g *api.Genesis) {
			g.Writers, g.Admins = []api.Key{writerKey}, []api.Key{bothKey, bothKey, adminKey}
		},
		"a writer twice":  func(g *api.Genesis) { g.Writers = []api.Key{writerKey, writerKey, bothKey} },
		"all are writers": func(g *api.Genesis) { g.Writers, g.Admins = append(g.Writers, g.Admins...), nil },
		"all are admins":  func(g *api.Genesis) { g.Writers, g.Admins = nil, append(g.Writers, g.Admins...) },
		"changed about":   func(g *api.Genesis) { g.Writers, g.Admins = g.Admins, g.Writers },
	} {
		g := changed(change)
		if other, ok := names[Root(g)]; ok || !Right(g) {
			t.Errorf("%s has the name of %s, or isn't right", name, other)
		}
		names[Root(g)] = name
	}
}

// someGenesis is a genesis that is mostly right.
func someGenesis(r *rand.Rand) api.Genesis {
	some := func() []api.Key {
		var l []api.Key
		for range []int{0, 1, 2, 7, 8, 8, 8, 9}[r.IntN(8)] {
			l = append(l, eightKeys()[r.IntN(8)])
			if r.IntN(60) == 0 {
				l = append(l, noKeys[r.IntN(3)])
			}
		}
		return l
	}
	g := api.Genesis{Root: sample.SomeRecord(r.IntN), Writers: some(), Admins: some(), Most: r.IntN(70) - 1, Wait: r.IntN(36) - 1}
	if r.IntN(10) == 0 {
		g.Root = sample.SomeSchema(r.IntN, 5)
	}
	return g
}

// TestGenesisAny: P19.1: any geneses, as the model says.
func TestGenesisAny(t *testing.T) {
	r := chance()
	count := map[bool]int{}
	for range 1500 {
		g := someGenesis(r)
		checkGenesis(t, "any", g, wantRight(g))
		count[wantRight(g)]++
	}
	if min(count[true], count[false]) < 300 {
		t.Errorf("%v", count)
	}
}

// roomyGenesis is the same genesis, whose lists have spare room in which something stands.
func roomyGenesis(g api.Genesis) api.Genesis {
	spare := func(l []api.Key) []api.Key { return append(slices.Clone(l), api.Key{98}, api.Key{99})[:len(l)] }
	g.Root, g.Writers, g.Admins = sample.RoomySchema(g.Root), spare(g.Writers), spare(g.Admins)
	return g
}

// wholeGenesis is a copy of a genesis with its spare room.
func wholeGenesis(g api.Genesis) api.Genesis {
	g.Root, g.Writers, g.Admins = sample.WholeSchema(g.Root), slices.Clone(g.Writers[:cap(g.Writers)]), slices.Clone(g.Admins[:cap(g.Admins)])
	return g
}

// scrambleGenesis overwrites all that a genesis's lists hold, their spare room, too.
func scrambleGenesis(g api.Genesis) {
	sample.ScrambleSchema(g.Root)
	for _, l := range [][]api.Key{g.Writers, g.Admins} {
		for i := range l[:cap(l)] {
			l[:cap(l)][i] = api.Key{77}
		}
	}
}

// TestGenesisOwn: P19.3: a genesis that is handed in isn't changed, nor kept; what Genesis tells is new.
func TestGenesisOwn(t *testing.T) {
	for name, want := range rightGeneses() {
		g := roomyGenesis(want)
		kept := wholeGenesis(g)
		s, _ := New(g)
		root := Root(g)
		Right(g)
		told := s.Genesis()
		scrambleGenesis(told)
		if !sameGenesis(wholeGenesis(g), kept) {
			t.Errorf("%s: what is handed in has changed, or is shared", name)
		}
		scrambleGenesis(g)
		if !sameGenesis(s.Genesis(), want) || Root(s.Genesis()) != root {
			t.Errorf("%s: what is handed in is kept, or what is told is shared: %v", name, s.Genesis())
		}
	}
	// Who may sign is known by the store alone.
	g := genesisOf(7)
	s, _ := New(g)
	scrambleGenesis(g)
	m := &model{g: genesisOf(7)}
	checkAdd(t, "a Write", s, m, writeBy(writer, 1))
	checkAdd(t, "a Publish", s, m, publishBy(admin, "a"))
	if s.Len() != 2 {
		t.Error("Len:", s.Len())
	}
}
