package registry

import (
	"math"
	"reflect"
	"strconv"
	"testing"

	"dioptre/api"
	"dioptre/sample"
	"dioptre/told"
	"dioptre/trial"
)

// TestNew: P20.1: a registry of one version, of the right schema of a record, whatever its name, and however many bytes that has.
func TestNew(t *testing.T) {
	for name, s := range map[string]api.Schema{
		"a number":        one(),
		"no field":        recordOf(nil),
		"empty lists":     {Kind: api.Record, Words: []string{}, Parts: []api.Schema{}},
		"eight fields":    recordOf([]string{"_", "a", "b", "c", "d", "e", "f", "g"}, of(api.Int), of(api.Bool), of(api.Text), of(api.Enum, "b", "a"), one(), listOf(one()), listOf(of(api.Int)), recordOf(nil)),
		"five deep":       recordOf([]string{"a"}, listOf(listOf(listOf(of(api.Int))))),
		"many bytes":      sample.LargeSchema(4096),
		"very many bytes": sample.LargeSchema(4100),
	} {
		for _, root := range append(sample.Hashes(), named('r')) {
			roomy := sample.RoomySchema(s)
			kept := sample.WholeSchema(roomy)
			r, e := New(root, roomy)
			if e != nil || r == nil || !wantRight(s) {
				t.Fatalf("%s: New: %v, the model tells %v", name, e, wantRight(s))
			}
			if !reflect.DeepEqual(sample.WholeSchema(roomy), kept) {
				t.Errorf("%s: New has changed the schema", name)
			}
			sample.ScrambleSchema(roomy)
			checkAll(t, name, r, &model{[]item{{name: root, s: plainOf(s)}}}, append(sample.Hashes(), named('a'))...)
		}
	}
}

// TestNewWrong: P20.1: a schema that isn't right, or isn't a record's.
func TestNewWrong(t *testing.T) {
	ring := listOf(of(api.Int))
	ring.Parts[0] = ring
	nine := recordOf([]string{"1", "2", "3", "4", "5", "6", "7", "8", "9"})
	for range nine.Words {
		nine.Parts = append(nine.Parts, of(api.Int))
	}
	for name, s := range map[string]api.Schema{
		"none": {}, "Int": of(api.Int), "Bool": of(api.Bool), "Text": of(api.Text), "Enum": of(api.Enum, "a"), "List": listOf(of(api.Int)), "a list of a record": listOf(one()),
		"kind 7": {Kind: 7}, "kind -1": {Kind: -1}, "kind 261": {Kind: 261}, "no part": recordOf([]string{"a"}), "no name": {Kind: api.Record, Parts: []api.Schema{of(api.Int)}}, "nine fields": nine,
		"names that fall": recordOf([]string{"b", "a"}, of(api.Int), of(api.Int)), "a name twice": recordOf([]string{"a", "a"}, of(api.Int), of(api.Int)), "a great name": recordOf([]string{"A"}, of(api.Int)),
		"a part of no kind": recordOf([]string{"a"}, api.Schema{}), "an enum without words": recordOf([]string{"a"}, of(api.Enum)), "six deep": recordOf([]string{"a"}, listOf(listOf(listOf(listOf(of(api.Int)))))), "a ring": recordOf([]string{"a"}, ring),
	} {
		for _, root := range sample.Hashes() {
			r, e := New(root, s)
			trial.Code(t, name+": New", e, api.ErrArg)
			if r != nil {
				t.Errorf("%s: a registry beside an error", name)
			}
		}
	}
}

// sheet is a record of a number, lists of numbers and of records, and a record.
func sheet() api.Schema {
	return recordOf([]string{"a", "l", "m", "r"}, of(api.Int), listOf(of(api.Int)), listOf(one()), recordOf([]string{"n"}, of(api.Bool)))
}

// kind is a lens that goes on the sheet, and its target.
type kind struct {
	want string
	l    api.Lens
}

// kinds are lenses that go on the sheet, of each kind, and their targets.
func kinds() []kind {
	return []kind{
		{"{b=int,l=[int],m=[{a=int}],r={n=bool}}", rename("a", "b")},
		{"{a=int,b=text,l=[int],m=[{a=int}],r={n=bool}}", sample.Add("b", of(api.Text), sample.Text("t"))},
		{"{l=[int],m=[{a=int}],r={n=bool}}", sample.Remove("a", of(api.Int), num(7))},
		{"{a=int,l=[int],m=[{a=int}],n=bool,r={}}", sample.Hoist("r", "n")},
		{"{l=[int],m=[{a=int}],r={a=int,n=bool}}", sample.Plunge("r", "a")},
		{"{a=[int],l=[int],m=[{a=int}],r={n=bool}}", wrap("a")},
		{"{a=int,l=int,m=[{a=int}],r={n=bool}}", sample.Head("l")},
		{"{a=#x#y,l=[int],m=[{a=int}],r={n=bool}}", sample.Convert("a", of(api.Enum, "x", "y"), sample.Word("y"), num(3), api.Pair{X: num(1), Y: sample.Word("x")})},
		{"{a=int,l=[int],m=[{a=int}],r={n=[bool]}}", sample.In("r", wrap("n"))},
		{"{a=int,l=[int],m=[{c=int}],r={n=bool}}", sample.Map("m", rename("a", "c"))},
		{"{a=int,l=[int],m=[{a=int,b=[int]}],r={n=bool}}", sample.Map("m", sample.Add("b", listOf(of(api.Int)), sample.Nums(1, 2)))},
		{"{a=int,l=[int],m=[{a=text}],r={n=bool}}", sample.Map("m", sample.Convert("a", of(api.Text), sample.Text(""), num(0), api.Pair{X: num(1), Y: sample.Text("one")}))},
		{"{a=int,l=[int],m=[{a=int}],r={n=bool,o=[bool]}}", sample.In("r", sample.Add("o", listOf(of(api.Bool)), sample.List(nil)))},
	}
}

// TestAdd: P20.1: a version by each kind of lens: its schema is the target on the schema of its from, its lens is as it was.
func TestAdd(t *testing.T) {
	r, m := newOf(t, named('r'), sheet())
	added(t, r, m, named('s'), named('r'), wrap("r"))
	added(t, r, m, named('t'), named('s'), sample.Head("r"))
	letter := byte('A')
	for _, c := range kinds() {
		for _, from := range names("rt") {
			v := named(letter)
			letter++
			added(t, r, m, v, from, c.l)
			if s, ok := r.Schema(v); told.Schema(s) != c.want || !ok {
				t.Errorf("%v: %s %v, not %s", c.l, told.Schema(s), ok, c.want)
			}
			if x, ok := r.Lens(v); !sameLens(x, c.l) || !ok {
				t.Errorf("%v: %v %v", c.l, x, ok)
			}
			if x, ok := r.From(v); x != from || !ok || r.Depth(v) != r.Depth(from)+1 {
				t.Errorf("%v: From %x %v, Depth %d", c.l, x, ok, r.Depth(v))
			}
		}
	}
	checkAll(t, "all kinds", r, m, named('x'))
}

// TestVersions: P20.1: the names come in the order of registering, whatever that of their bytes, and of their depths, is.
func TestVersions(t *testing.T) {
	r, m := newOf(t, named('m'), one())
	for k, step := range []string{"zm", "az", "bm", ".a", "ya", "cm", "x.", "db"} {
		added(t, r, m, named(step[0]), named(step[1]), further(r, named(step[1])))
		if got := letters(r.Versions()...); got != "mzab.ycxd"[:k+2] {
			t.Errorf("Versions: %s", got)
		}
		checkAll(t, step, r, m, named('n'))
	}
}

// refused: a version isn't registered, by just that error, and all stays as it was.
func refused(t *testing.T, name string, r *Registry, m *model, v, from api.Hash, l api.Lens, code api.Errno) {
	t.Helper()
	if got := checkAdd(t, name, r, m, v, from, l); got != code {
		t.Errorf("%s: the model tells %d, not %d", name, got, code)
	}
	checkAll(t, name, r, m, v, from)
}

// TestAddErrors: P20.1: of several errors that one which the chapter names first; nothing changes by it, and the name may come later.
func TestAddErrors(t *testing.T) {
	r, m := newOf(t, named('r'), one())
	added(t, r, m, named('a'), named('r'), rename("a", "b"))
	for faults := 1; faults < 12; faults++ {
		v, from, l := named('b'), named('a'), wrap("b")
		code := []api.Errno{api.OK, api.ErrLens, api.ErrArg}[faults%3]
		switch code {
		case api.ErrLens:
			l = wrap("a")
		case api.ErrArg:
			l = wrap("B")
		}
		if faults/3%2 == 1 {
			v, code = []api.Hash{named('a'), named('r')}[faults%2], api.ErrTwice
		}
		if faults/6 == 1 {
			from, code = named('x'), api.ErrNone
		}
		refused(t, "faults "+strconv.Itoa(faults), r, m, v, from, l, code)
	}
	refused(t, "of itself", r, m, named('a'), named('a'), wrap("b"), api.ErrTwice)
	refused(t, "the root of itself", r, m, named('r'), named('r'), wrap("a"), api.ErrTwice)
	refused(t, "of itself, which isn't there", r, m, named('b'), named('b'), wrap("b"), api.ErrNone)
	refused(t, "of the zero name", r, m, named('b'), api.Hash{}, wrap("b"), api.ErrNone)
	refused(t, "the same once more", r, m, named('a'), named('r'), rename("a", "b"), api.ErrTwice)
	added(t, r, m, named('b'), named('a'), wrap("b"))
	added(t, r, m, api.Hash{}, named('r'), wrap("a"))
	refused(t, "the zero name", r, m, api.Hash{}, named('r'), wrap("a"), api.ErrTwice)
	checkAll(t, "all", r, m)
}

// TestAddLenses: P20.1: Target's errors, of the schema of the from, not of the root's or another version's.
func TestAddLenses(t *testing.T) {
	r, m := newOf(t, named('r'), recordOf([]string{"a", "b", "c", "d", "e", "f", "g"}, of(api.Int), of(api.Int), of(api.Int), of(api.Int), of(api.Int), of(api.Int), listOf(listOf(of(api.Int)))))
	added(t, r, m, named('a'), named('r'), rename("a", "h"))
	added(t, r, m, named('b'), named('r'), sample.Add("h", of(api.Int), num(1)))
	for name, l := range map[string]api.Lens{
		"zero": {}, "no kind": {Kind: 11, A: "h"}, "a kind below": {Kind: -1, A: "h"}, "kind 257": {Kind: 257, A: "h", B: "i"}, "no name": wrap(""), "a great name": wrap("H"), "a field beside": {Kind: api.Wrap, A: "h", B: "i"}, "to itself": rename("h", "h"),
		"a base that doesn't fit": sample.Add("i", of(api.Int), sample.Truth(1)), "nothing within": sample.In("h"), "two within": sample.In("h", wrap("a"), wrap("b")), "six deep": sample.Within(wrap("a"), 5), "very deep": sample.Within(wrap("a"), 300),
	} {
		for _, from := range names("rab") {
			refused(t, name, r, m, named('c'), from, l, api.ErrArg)
		}
	}
	for from, all := range map[byte][]api.Lens{
		'r': {wrap("h"), rename("a", "b"), rename("h", "i"), sample.Head("a"), sample.Hoist("a", "b"), sample.In("a", wrap("b")), sample.Map("g", wrap("a")), sample.Remove("a", of(api.Bool), sample.Truth(1)), sample.Map("g", sample.Within(wrap("a"), 3)), sample.Add("a", of(api.Int), num(1))},
		'a': {wrap("a"), rename("a", "b"), rename("h", "b"), sample.Add("h", of(api.Int), num(1)), sample.Plunge("g", "h"), sample.Convert("h", of(api.Int), num(1), sample.Truth(1))},
		'b': {wrap("i"), sample.Add("i", of(api.Int), num(1)), rename("a", "h")},
	} {
		for k, l := range all {
			refused(t, string(rune(from))+" "+strconv.Itoa(k), r, m, named('c'), named(from), l, api.ErrLens)
		}
	}
	added(t, r, m, named('c'), named('a'), wrap("g"))
	refused(t, "too deep", r, m, named('d'), named('c'), wrap("g"), api.ErrLens)
	added(t, r, m, named('d'), named('c'), wrap("h"))
	added(t, r, m, named('e'), named('b'), rename("a", "i"))
	checkAll(t, "all", r, m, api.Hash{})
}

// TestNil: a nil registry has no version, and takes none.
func TestNil(t *testing.T) {
	var r *Registry
	for name, l := range map[string]api.Lens{"right": wrap("a"), "zero": {}} {
		for _, from := range append(sample.Hashes(), named('a')) {
			trial.Code(t, name, r.Add(named('a'), from, l), api.ErrState)
			trial.Code(t, name, r.Add(from, from, l), api.ErrState)
		}
	}
	if r.Copy() != nil {
		t.Error("Copy: a registry")
	}
	checkAll(t, "nil", r, &model{}, append(sample.Hashes(), named('a'))...)
	if r.Depth(api.Hash{}) != -1 || r.Versions() != nil || r.Out(api.Hash{}) != nil {
		t.Error("a nil registry has something")
	}
}

// TestAddDeep: the depth of a version isn't held against any limit.
func TestAddDeep(t *testing.T) {
	const most = 30000
	r, e := New(sample.Hash(0, 0), one())
	if e != nil {
		t.Fatal(e)
	}
	at := func(k int) api.Hash { return api.Hash{byte(k), byte(k >> 8), byte(k >> 16)} }
	turns := []api.Lens{rename("b", "a"), rename("a", "b")}
	for k := 1; k <= most; k++ {
		// Each has another one beside it, of which nothing is made.
		if r.Add(at(k), at(k-1), turns[k%2]) != nil || r.Add(at(k+1<<17), at(k-1), turns[k%2]) != nil {
			t.Fatal(k)
		}
	}
	l, ok := r.Path(at(most), at(1<<17+1))
	if !ok || len(l) != most+2 || l[0] != at(most) || l[most] != at(0) || l[most+1] != at(1<<17+1) {
		t.Error("Path:", len(l), ok)
	}
	if r.Depth(at(most)) != most || r.Depth(at(1<<17+most)) != most || r.Depth(at(math.MaxInt)) != -1 {
		t.Error("Depth:", r.Depth(at(most)))
	}
	c := r.Copy()
	way := c.Out(at(0))
	if len(way) != 2*most || way[2*most-1] != (Edge{at(most - 1), at(1<<17 + most), true}) {
		t.Error("Out:", len(way))
	}
}

// TestAddWide: of one version very many may be made.
func TestAddWide(t *testing.T) {
	const most = 30000
	r, e := New(named('r'), one())
	if e != nil {
		t.Fatal(e)
	}
	at := func(k int) api.Hash { return api.Hash{byte(k), byte(k >> 8), 1} }
	for k := range most {
		if e := r.Add(at(k), named('r'), wrap("a")); e != nil {
			t.Fatal(k, e)
		}
	}
	way := r.Out(at(9))
	if len(way) != most || way[0] != (Edge{From: at(9), To: named('r')}) || way[9] != (Edge{named('r'), at(8), true}) || way[10] != (Edge{named('r'), at(10), true}) || way[most-1].To != at(most-1) {
		t.Error("Out:", len(way))
	}
	if l, ok := r.Path(at(most-1), at(3)); !ok || len(l) != 3 || len(r.Versions()) != most+1 {
		t.Error("Path:", l, ok)
	}
}
