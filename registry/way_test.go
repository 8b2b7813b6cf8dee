package registry

import (
	"slices"
	"testing"

	"dioptre/api"
	"dioptre/sample"
)

// tree is a registry of that root, and of versions in this order: each name, and behind it that of its from.
func tree(t *testing.T, root byte, steps ...string) (*Registry, *model) {
	t.Helper()
	r, m := newOf(t, named(root), recordOf(nil))
	for _, step := range steps {
		added(t, r, m, named(step[0]), named(step[1]), further(r, named(step[1])))
	}
	checkAll(t, "a tree", r, m, named('?'), named('.'))
	return r, m
}

// family is a tree whose versions were registered in another order than that of their names, or of their depths.
func family(t *testing.T) (*Registry, *model) {
	t.Helper()
	return tree(t, 'r', "mr", "cm", "zr", "am", "kz", "br", "yc", "dz", "lr", "ek")
}

// checkPaths: paths, as letters, are there, and so is each one, turned about.
func checkPaths(t *testing.T, r *Registry, paths ...string) {
	t.Helper()
	for _, want := range paths {
		v, w := named(want[0]), named(want[len(want)-1])
		if got, ok := r.Path(v, w); letters(got...) != want || !ok {
			t.Errorf("Path: %s %v, not %s", letters(got...), ok, want)
		}
		back := names(want)
		slices.Reverse(back)
		if got, ok := r.Path(w, v); !slices.Equal(got, back) || !ok {
			t.Errorf("Path: %s %v, not %s, turned about", letters(got...), ok, want)
		}
	}
}

// TestPath: P20.2, P20.3: up, down, up and then down, and to itself.
func TestPath(t *testing.T) {
	r, _ := family(t)
	checkPaths(t, r, "r", "m", "y", "rm", "rmc", "rmcy", "rzke", "mc", "mcy", "zke", "cma", "ycma", "mrz", "cmrb", "amrl", "ycmrzke", "ycmrzd", "ekzd", "kzd", "ekzrl")
}

// TestPathNone: P20.2: no path from, or to, what is no version, whatever is asked for.
func TestPathNone(t *testing.T) {
	r, m := family(t)
	for _, none := range append(sample.Hashes(), named('?'), api.Hash{'r', 1}, api.Hash{'m', 31: 1}) {
		for _, v := range append(m.names(), none) {
			for _, ends := range [][2]api.Hash{{v, none}, {none, v}} {
				if l, ok := r.Path(ends[0], ends[1]); l != nil || ok {
					t.Errorf("Path from %x to %x: %x %v", ends[0], ends[1], l, ok)
				}
			}
		}
		if r.Out(none) != nil || r.Depth(none) != -1 {
			t.Errorf("Out, Depth of %x: %v, %d", none, r.Out(none), r.Depth(none))
		}
		s, ok := r.Schema(none)
		l, ok2 := r.Lens(none)
		from, ok3 := r.From(none)
		if ok || ok2 || ok3 || !sameSchema(s, api.Schema{}) || !sameLens(l, api.Lens{}) || from != (api.Hash{}) {
			t.Errorf("Schema, Lens, From of %x: %v, %v, %x", none, s, l, from)
		}
	}
}

// TestOut: P20.2: ring by ring, in the order in which they were reached, those beside one in the order of registering.
func TestOut(t *testing.T) {
	r, _ := family(t)
	for v, want := range map[byte]string{
		'r': "r+m r+z r+b r+l m+c m+a z+k z+d c+y k+e",
		'm': "m-r m+c m+a r+z r+b r+l c+y z+k z+d k+e",
		'z': "z-r z+k z+d r+m r+b r+l k+e m+c m+a c+y",
		'y': "y-c c-m m-r m+a r+z r+b r+l z+k z+d k+e",
		'l': "l-r r+m r+z r+b m+c m+a z+k z+d c+y k+e",
		'k': "k-z k+e z-r z+d r+m r+b r+l m+c m+a c+y",
		'?': "",
	} {
		if got := edges(r.Out(named(v))); got != want {
			t.Errorf("Out of %c: %s, not %s", v, got, want)
		}
	}
}

// TestDepth: P20.2: how far from the root.
func TestDepth(t *testing.T) {
	r, _ := family(t)
	for depth, l := range []string{"r", "mzbl", "cakd", "ye"} {
		for _, v := range names(l) {
			if got := r.Depth(v); got != depth {
				t.Errorf("Depth of %s: %d, not %d", letters(v), got, depth)
			}
		}
	}
}

// TestExample: the chapter's example.
func TestExample(t *testing.T) {
	r, _ := tree(t, 'r', "ar", "br")
	checkPaths(t, r, "arb")
	if got := edges(r.Out(named('a'))); got != "a-r r+b" {
		t.Error("Out:", got)
	}
}

// TestAlone: P20.2: of the root alone.
func TestAlone(t *testing.T) {
	for _, root := range []byte{'r', '.'} {
		r, _ := tree(t, root)
		l, ok := r.Path(named(root), named(root))
		if letters(l...) != string(root) || !ok || r.Out(named(root)) != nil || r.Depth(named(root)) != 0 {
			t.Errorf("Path %x %v, Out %v, Depth %d", l, ok, r.Out(named(root)), r.Depth(named(root)))
		}
	}
}

// TestZero: the name that is zero is one as others are: nothing was made of it that wasn't, the root above all.
func TestZero(t *testing.T) {
	r, _ := tree(t, 'r', ".r", "a.", "br", "c.")
	checkPaths(t, r, "r.", "r.a", ".rb", "a.rb", "a.c")
	if got := edges(r.Out(named('.'))); got != ".-r .+a .+c r+b" {
		t.Error("Out of the zero name:", got)
	}
	if from, ok := r.From(named('r')); from != (api.Hash{}) || ok {
		t.Error("From of the root:", from, ok)
	}
	if from, ok := r.From(named('a')); from != (api.Hash{}) || !ok {
		t.Error("From of a:", from, ok)
	}
	r, _ = tree(t, '.', "a.", "ba")
	checkPaths(t, r, ".", ".a", ".ab")
	if got := edges(r.Out(named('a'))); got != "a-. a+b" {
		t.Error("Out:", got)
	}
	if from, ok := r.From(api.Hash{}); from != (api.Hash{}) || ok || r.Depth(api.Hash{}) != 0 {
		t.Error("From of the root:", from, ok)
	}
}

// TestLine: versions of which each was made of the one before it.
func TestLine(t *testing.T) {
	r, _ := tree(t, 'a', "ba", "cb", "dc", "ed")
	checkPaths(t, r, "abcde", "bcd", "de")
	for v, want := range map[byte]string{'a': "a+b b+c c+d d+e", 'c': "c-b c+d b-a d+e", 'e': "e-d d-c c-b b-a"} {
		if got := edges(r.Out(named(v))); got != want {
			t.Errorf("Out of %c: %s, not %s", v, got, want)
		}
	}
}
