package line

import (
	"encoding/binary"
	"math/rand/v2"
	"slices"
	"testing"

	"dioptre/api"
	"dioptre/sample"
)

// TestLess: P18.1: the depth says it; of one depth the name does, byte by byte.
func TestLess(t *testing.T) {
	l := rising()
	for i, a := range l {
		for k, b := range l {
			if Less(a, b) != (i < k) || wantLess(a, b) != (i < k) {
				t.Errorf("Less of %v, %v: %v", a, b, Less(a, b))
			}
		}
	}
	for i := range 32 {
		a, b := markOf(3, 5, 5), markOf(3, 5, 5)
		a.Id[i], b.Id[i] = 127, 128
		for k := i + 1; k < 32; k++ {
			a.Id[k], b.Id[k] = 9, 3
		}
		if !Less(a, b) || Less(b, a) || Less(a, a) || Less(b, b) {
			t.Errorf("at %d: %v, %v", i, Less(a, b), Less(b, a))
		}
		a.Depth = 4
		if Less(a, b) || !Less(b, a) {
			t.Errorf("at %d, deeper: %v, %v", i, Less(a, b), Less(b, a))
		}
	}
	r := chance()
	for range 20000 {
		a, b := someMark(r), someMark(r)
		if Less(a, b) != wantLess(a, b) || Less(a, b) && Less(b, a) || !Less(a, b) && !Less(b, a) && a != b {
			t.Fatalf("Less of %v, %v: %v", a, b, Less(a, b))
		}
	}
}

// checkSort: Sort tells what the model tells, in new memory, and changes nothing.
func checkSort(t *testing.T, l []api.Mark) {
	t.Helper()
	marks, stays := lent(l)
	want := wantLine(l...)
	got := Sort(marks...)
	if !slices.Equal(got, want) || !stays() {
		t.Errorf("Sort of %v: %v", l, got)
	}
	overwrite(got)
	if again := Sort(marks...); !stays() || !slices.Equal(again, want) {
		t.Errorf("Sort of %v has kept it, or shares with it: %v", l, again)
	}
}

// TestSort: P18.1: any marks as a line, each once.
func TestSort(t *testing.T) {
	if len(Sort()) > 0 || len(Sort([]api.Mark{}...)) > 0 {
		t.Error("Sort of none:", Sort())
	}
	a, b, c := markOf(1, 9, 9), markOf(2, 1, 1), markOf(2, 1, 2)
	if got := Sort(c, a, b, a); !slices.Equal(got, []api.Mark{a, b, c}) {
		t.Errorf("Sort: %v", got)
	}
	l := rising()
	back := slices.Clone(l)
	slices.Reverse(back)
	for _, l := range [][]api.Mark{nil, {}, {a}, {a, b}, {b, a}, {a, a}, {a, a, a}, {b, a, b}, {c, c, b, b, a, a}, {{}, {}}, {a, {}}, l, back, slices.Concat(l, back), slices.Repeat(l, 3)} {
		checkSort(t, l)
	}
	r := chance()
	for range 3000 {
		checkSort(t, someMarks(r, r.IntN(14)))
	}
	checkSort(t, someMarks(r, 1000))
}

// TestMany: P18.1, P18.2: very many marks, of one depth and of several ones.
func TestMany(t *testing.T) {
	many := make([]api.Mark, 200000)
	for i := range many {
		n := i * 7919 % 199999
		many[i].Depth = n / 50000
		binary.BigEndian.PutUint64(many[i].Id[24:], uint64(n%50000))
	}
	l := Sort(many...)
	if len(l) != 199999 || !slices.IsSortedFunc(l, compareMarks) {
		t.Fatal("Sort:", len(l))
	}
	var odd, even []api.Mark
	for i, m := range l {
		if i%2 == 0 {
			even = append(even, m)
		} else {
			odd = append(odd, m)
		}
	}
	for i := 0; i < len(l); i += 997 {
		if k, ok := Place(l, l[i]); k != i || !ok {
			t.Errorf("Place of the mark %d: %d %v", i, k, ok)
		}
		if k, ok := Place(even, l[i]); k != (i+1)/2 || ok != (i%2 == 0) {
			t.Errorf("Place of the mark %d in every other one: %d %v", i, k, ok)
		}
	}
	if m := Merge(odd, even); !slices.Equal(m, l) || Common(m, l) != len(l) || Common(even, l) != 1 || Common(odd, l) != 0 {
		t.Error("Merge, Common")
	}
	if names := Names(l); len(names) != len(l) || names[70000] != l[70000].Id {
		t.Error("Names:", len(names))
	}
}

// compareMarks is the order of marks, for the library's calls.
func compareMarks(a, b api.Mark) int {
	switch {
	case wantLess(a, b):
		return -1
	case wantLess(b, a):
		return 1
	}
	return 0
}

// checkPlace: Place and Insert tell what the chapter's words say of a line and a mark; they change nothing, and what they tell is new.
func checkPlace(t *testing.T, l []api.Mark, m api.Mark) {
	t.Helper()
	place, there := 0, slices.Contains(l, m)
	for _, x := range l {
		if wantLess(x, m) {
			place++
		}
	}
	marks, stays := lent(l)
	if k, ok := Place(marks, m); k != place || ok != there || !stays() {
		t.Errorf("Place in %v of %v: %d %v, not %d %v", l, m, k, ok, place, there)
	}
	want := wantLine(append(slices.Clone(l), m)...)
	got, k, fresh := Insert(marks, m)
	if !slices.Equal(got, want) || k != place || fresh != !there || !stays() {
		t.Errorf("Insert in %v of %v: %v %d %v, not %v %d %v", l, m, got, k, fresh, want, place, !there)
	}
	overwrite(got)
	if !stays() {
		t.Errorf("Insert in %v of %v: what is told shares with what is handed in", l, m)
	}
	if again, k, fresh := Insert(marks, m); !slices.Equal(again, want) || k != place || fresh != !there {
		t.Errorf("Insert in %v of %v again: %v %d %v", l, m, again, k, fresh)
	}
}

// TestPlace: P18.1: each mark of a line, and each that may come in, ahead of all, between two, behind all; marks that are alike but for their depth, or for their name.
func TestPlace(t *testing.T) {
	a, b := markOf(2, 5, 5), markOf(4, 5, 5)
	for _, m := range append(rising(), a, b, markOf(2, 5, 4), markOf(2, 5, 6), markOf(3, 5, 5), markOf(4, 4, 5), markOf(4, 6, 5), markOf(5, 5, 5)) {
		for _, l := range [][]api.Mark{nil, {}, {a}, {b}, {a, b}, {{}}, {{}, a, b}} {
			checkPlace(t, l, m)
		}
	}
	l := rising()
	for i, m := range l {
		checkPlace(t, l, m)
		checkPlace(t, slices.Delete(slices.Clone(l), i, i+1), m)
		checkPlace(t, l[:i], m)
		checkPlace(t, l[i+1:], m)
	}
	r := chance()
	count := map[bool]int{}
	for range 3000 {
		l, m := wantLine(someMarks(r, r.IntN(14))...), someMark(r)
		checkPlace(t, l, m)
		count[slices.Contains(l, m)]++
	}
	if min(count[true], count[false]) < 100 {
		t.Errorf("%v", count)
	}
}

// checkMerge: Merge tells the line of all marks of two lines, in new memory, and changes nothing.
func checkMerge(t *testing.T, a, b []api.Mark) {
	t.Helper()
	x, xStays := lent(a)
	y, yStays := lent(b)
	want := wantLine(slices.Concat(a, b)...)
	got := Merge(x, y)
	if !slices.Equal(got, want) || !xStays() || !yStays() {
		t.Errorf("Merge of %v, %v: %v, not %v", a, b, got, want)
	}
	overwrite(got)
	if again := Merge(y, x); !xStays() || !yStays() || !slices.Equal(again, want) {
		t.Errorf("Merge of %v, %v: it shares with these, or %v, turned about", a, b, again)
	}
}

// TestMerge: P18.2: lines one behind the other, one within the other, the same, with marks in common, and none.
func TestMerge(t *testing.T) {
	l := rising()
	n := len(l)
	for _, c := range [][2][]api.Mark{{nil, nil}, {nil, {}}, {l[:1], nil}, {l, nil}, {l, l}, {l[:9], l[9:]}, {l[:12], l[9:]}, {l[3:5], l}, {l[:1], l[n-1:]}, {l[:1], l[:1]}, {{l[0], l[2]}, {l[1], l[3]}}, {{l[0], l[2]}, {l[0], l[1], l[2], l[3]}}} {
		checkMerge(t, c[0], c[1])
	}
	// Two parts of one list.
	if got := Merge(l[:5], l[2:7]); !slices.Equal(got, l[:7]) || !slices.Equal(l, rising()) {
		t.Errorf("Merge of two parts: %v of %v", got, l)
	}
	r := chance()
	for range 3000 {
		checkMerge(t, wantLine(someMarks(r, r.IntN(12))...), wantLine(someMarks(r, r.IntN(12))...))
	}
}

// TestCommon: P18.2: of how many first marks two lists are the same, whether they are lines or not.
func TestCommon(t *testing.T) {
	a, b, c := markOf(1, 1, 1), markOf(2, 2, 2), markOf(1, 1, 2)
	for _, x := range []struct {
		a, b []api.Mark
		want int
	}{
		{nil, nil, 0}, {nil, []api.Mark{a}, 0}, {[]api.Mark{a}, []api.Mark{a}, 1}, {[]api.Mark{a}, []api.Mark{b}, 0}, {[]api.Mark{a}, []api.Mark{a, b}, 1}, {[]api.Mark{a, b}, []api.Mark{a, b}, 2},
		{[]api.Mark{a, b, c}, []api.Mark{a, c, c}, 1}, {[]api.Mark{a, b, c}, []api.Mark{b, b, c}, 0}, {[]api.Mark{b, a, a}, []api.Mark{b, a, a, c}, 3}, {[]api.Mark{a}, []api.Mark{c}, 0},
		{[]api.Mark{a}, []api.Mark{markOf(2, 1, 1)}, 0}, {[]api.Mark{a}, []api.Mark{markOf(1, 2, 1)}, 0}, {[]api.Mark{{}}, []api.Mark{{}, {}}, 1}, {[]api.Mark{a, {}}, []api.Mark{a}, 1},
	} {
		p, pStays := lent(x.a)
		q, qStays := lent(x.b)
		if Common(p, q) != x.want || Common(q, p) != x.want || !pStays() || !qStays() {
			t.Errorf("Common of %v, %v: %d, %d", x.a, x.b, Common(p, q), Common(q, p))
		}
	}
	r := chance()
	for range 3000 {
		l := someMarks(r, r.IntN(9))
		k := r.IntN(len(l) + 1)
		x, y := markOf(50, 50, 50), markOf(50, 50, byte(50+r.IntN(2)))
		more := k
		if x == y {
			more++
		}
		if got := Common(append(l[:k:k], x), append(l[:k:k], y)); got != more {
			t.Fatalf("Common: %d, not %d", got, more)
		}
	}
}

// TestNames: P18.2: the names of any marks, in their order, each as often as it stands there.
func TestNames(t *testing.T) {
	a, b := markOf(7, 2, 3), markOf(3, 4, 5)
	for _, l := range [][]api.Mark{nil, {}, {a}, {a, b}, {b, a}, {a, a, b, a}, {{}, a}, rising(), someMarks(chance(), 500)} {
		marks, stays := lent(l)
		got := Names(marks)
		same := len(got) == len(l)
		for i := range min(len(got), len(l)) {
			same = same && got[i] == l[i].Id
		}
		if !same || !stays() {
			t.Errorf("Names of %v: %x", l, got)
		}
		got = got[:cap(got)]
		for i := range got {
			got[i] = sample.Hash(77, 77)
		}
		if again := Names(marks); !stays() || len(again) != len(l) || len(again) > 0 && again[0] != l[0].Id {
			t.Errorf("Names of %v again: %x", l, again)
		}
	}
}

// TestNoLines: of lists that are no lines the calls tell anything; they end, and change nothing.
func TestNoLines(t *testing.T) {
	r := chance()
	for range 3000 {
		a, b, m := someMarks(r, r.IntN(9)), someMarks(r, r.IntN(9)), someMark(r)
		x, xStays := lent(a)
		y, yStays := lent(b)
		Place(x, m)
		l, _, _ := Insert(x, m)
		overwrite(l)
		overwrite(Merge(x, y))
		if !xStays() || !yStays() {
			t.Fatalf("%v, %v have changed", a, b)
		}
	}
}

// TestAnyOrder: P18.3: however marks come in, one by one, in lines or at once, some of them twice, the line is the same.
func TestAnyOrder(t *testing.T) {
	r := chance()
	for range 500 {
		l := someMarks(r, r.IntN(20))
		want := wantLine(l...)
		for range 3 {
			if got := cameOneByOne(t, shuffled(r, l)); !slices.Equal(got, want) {
				t.Fatalf("one by one: %v, not %v", got, want)
			}
			if got := cameInLines(r, shuffled(r, l)); !slices.Equal(got, want) {
				t.Fatalf("in lines: %v, not %v", got, want)
			}
			if got := Sort(shuffled(r, l)...); !slices.Equal(got, want) {
				t.Fatalf("at once: %v, not %v", got, want)
			}
		}
	}
}

// cameOneByOne is the line of marks that were inserted.
func cameOneByOne(t *testing.T, l []api.Mark) []api.Mark {
	t.Helper()
	var all []api.Mark
	for _, m := range l {
		before := slices.Clone(all)
		got, k, fresh := Insert(all, m)
		if at, ok := Place(got, m); at != k || !ok || fresh != (len(got) > len(before)) || !slices.Equal(all, before) {
			t.Errorf("Insert in %v of %v: %v %d %v", before, m, got, k, fresh)
		}
		all = got
	}
	return all
}

// cameInLines is the line of marks that were merged, some at a time.
func cameInLines(r *rand.Rand, l []api.Mark) []api.Mark {
	var all []api.Mark
	for len(l) > 0 {
		k := 1 + r.IntN(len(l))
		all = Merge(Sort(l[:k]...), all)
		l = l[k:]
	}
	return all
}
