package tree

import (
	"slices"
	"testing"
)

// node is a member of a tree, with lists of its own.
type node struct {
	n     int
	words []string
	parts []node
}

func parts(x *node) []node { return x.parts }

func alike(x, y *node) bool { return x.n == y.n && slices.Equal(x.words, y.words) }

func own(x *node) { x.words, x.parts = slices.Clone(x.words), slices.Clone(x.parts) }

func at(n int, l ...node) node { return node{n: n, words: []string{"w"}, parts: l} }

// within is a node within so many others.
func within(x node, n int) node {
	for range n {
		x = at(0, x)
	}
	return x
}

// visited are the members and depths that Walk hands on.
func visited(t *testing.T, x node) (members, depths []int) {
	t.Helper()
	if !Walk(&x, parts, func(m *node, depth int) { members, depths = append(members, m.n), append(depths, depth) }) {
		t.Error("a tree without an end")
	}
	return members, depths
}

// TestWalk: the root first, each part's ones behind it, in order.
func TestWalk(t *testing.T) {
	x := at(1, at(2, at(3), at(4, at(5))), at(6), at(7, at(8)))
	members, depths := visited(t, x)
	if !slices.Equal(members, []int{1, 2, 3, 4, 5, 6, 7, 8}) || !slices.Equal(depths, []int{1, 2, 3, 3, 4, 2, 2, 3}) {
		t.Error(members, depths)
	}
	members, depths = visited(t, node{})
	if !slices.Equal(members, []int{0}) || !slices.Equal(depths, []int{1}) {
		t.Error("without parts:", members, depths)
	}
	if Depth(x, parts) != 4 || Size(x, parts) != 8 || !Ends(x, parts) {
		t.Error(Depth(x, parts), Size(x, parts))
	}
}

// TestWalkChanged: parts that a visit puts into a member are gone through.
func TestWalkChanged(t *testing.T) {
	x := at(3)
	var seen []int
	Walk(&x, parts, func(m *node, depth int) {
		seen = append(seen, m.n)
		for n := range m.n {
			m.parts = append(m.parts, at(n))
		}
	})
	if !slices.Equal(seen, []int{3, 0, 1, 0, 2, 0, 1, 0}) {
		t.Error(seen)
	}
}

// TestSame: members are held against each other, and how many parts they have.
func TestSame(t *testing.T) {
	make := func() node { return at(1, at(2, at(3), at(4)), at(5)) }
	if !Same(make(), make(), parts, alike) {
		t.Error("the same")
	}
	for name, change := range map[string]func(x *node){
		"the root":       func(x *node) { x.n = 9 },
		"its words":      func(x *node) { x.words = nil },
		"a part":         func(x *node) { x.parts[1].n = 9 },
		"a deeper one":   func(x *node) { x.parts[0].parts[0].n = 9 },
		"the last one":   func(x *node) { x.parts[0].parts[1].words = nil },
		"one part fewer": func(x *node) { x.parts[0].parts = x.parts[0].parts[:1] },
		"one part more":  func(x *node) { x.parts[1].parts = []node{{}} },
		"none":           func(x *node) { x.parts = nil },
		"turned about":   func(x *node) { slices.Reverse(x.parts) },
	} {
		x := make()
		change(&x)
		if Same(x, make(), parts, alike) || Same(make(), x, parts, alike) {
			t.Error(name, "is the same")
		}
	}
}

// TestCopy: nothing is shared.
func TestCopy(t *testing.T) {
	make := func() node { return at(1, at(2, at(3), at(4)), at(5)) }
	x := make()
	c := Copy(x, parts, own)
	if !Same(c, make(), parts, alike) {
		t.Error("a copy:", c)
	}
	Walk(&c, parts, func(m *node, _ int) { m.n, m.words[0] = 9, "z" })
	if !Same(x, make(), parts, alike) {
		t.Error("the tree shares with its copy:", x)
	}
}

// TestDeep: there may be more depths than calls within calls.
func TestDeep(t *testing.T) {
	const n = 4000000
	x := node{n: 1}
	for range n {
		x = node{parts: []node{x}}
	}
	c := Copy(x, parts, own)
	if Depth(x, parts) != n+1 || Size(c, parts) != n+1 || !Same(x, c, parts, alike) {
		t.Error(Depth(x, parts), Size(c, parts))
	}
}

// ring is a tree in which a node lies so many depths within itself, that far below the root, so many parts standing ahead of it each time.
func ring(far, round, ahead int) node {
	first := node{}
	last := &first
	for range round - 1 {
		last = lay(last, node{}, ahead)
	}
	lay(last, first, ahead)
	// What was laid last has the first one's parts: these come again and again.
	return within(first, far)
}

// lay gives a node its parts, the last of which is x.
func lay(to *node, x node, ahead int) *node {
	to.parts = append(make([]node, ahead), x)
	return &to.parts[ahead]
}

// TestRings: wherever one lies in itself, it is found.
func TestRings(t *testing.T) {
	for far := range 20 {
		for round := 2; round < 40; round++ {
			for _, ahead := range []int{0, 1, 3} {
				x := ring(far, round, ahead)
				if Ends(x, parts) || Depth(x, parts) != 0 || Size(x, parts) != 0 {
					t.Fatal("ring", far, round, ahead)
				}
				if c := Copy(x, parts, own); c.parts != nil || c.words != nil || c.n != 0 {
					t.Fatal("copy of ring", far, round, ahead)
				}
				if Same(x, x, parts, alike) || Same(x, node{}, parts, alike) || Same(node{}, x, parts, alike) {
					t.Fatal("same as ring", far, round, ahead)
				}
			}
		}
	}
}

// TestRingOfMany: nodes each of which has them all, so that there are very many ways through them.
func TestRingOfMany(t *testing.T) {
	l := make([]node, 30)
	for i := range l {
		l[i].parts = make([]node, 30)
	}
	for _, x := range l {
		copy(x.parts, l)
	}
	if Ends(l[7], parts) {
		t.Error("a ring of many has an end")
	}
	all := make([]node, 30)
	for i := range all {
		all[i].parts = all
	}
	if Ends(all[3], parts) || Ends(at(1, at(2), all[3]), parts) {
		t.Error("a ring of one list has an end")
	}
}

// TestShared: a list that stands in several places isn't a ring.
func TestShared(t *testing.T) {
	x := at(1)
	size := 1
	for range 12 {
		l := []node{x}
		x, size = node{parts: []node{{parts: l}, {parts: l}}}, 3+2*size
	}
	if !Ends(x, parts) || Depth(x, parts) != 25 || Size(x, parts) != size {
		t.Error(Depth(x, parts), Size(x, parts), size)
	}
}
