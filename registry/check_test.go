package registry

import (
	"slices"
	"testing"

	"dioptre/api"
	"dioptre/sample"
	"dioptre/told"
	"dioptre/trial"
)

// newOf is a registry of that root, and its model.
func newOf(t *testing.T, root api.Hash, s api.Schema) (*Registry, *model) {
	t.Helper()
	r, e := New(root, s)
	if e != nil || r == nil {
		t.Fatalf("New of %s: %v", told.Schema(s), e)
	}
	return r, &model{[]item{{name: root, s: plainOf(s)}}}
}

// checkAdd: Add tells what the model tells; the lens stays as it is, its spare room, too, and isn't kept. It tells what was wrong.
func checkAdd(t *testing.T, name string, r *Registry, m *model, v, from api.Hash, l api.Lens) api.Errno {
	t.Helper()
	code := m.add(v, from, l)
	x := sample.RoomyLens(l)
	kept := sample.WholeLens(x)
	trial.Code(t, name+": Add", r.Add(v, from, x), code)
	if !sameLens(sample.WholeLens(x), kept) {
		t.Errorf("%s: Add has changed the lens %v", name, l)
	}
	sample.ScrambleLens(x)
	return code
}

// added: a version is registered.
func added(t *testing.T, r *Registry, m *model, v, from api.Hash, l api.Lens) {
	t.Helper()
	if code := checkAdd(t, letters(v), r, m, v, from, l); code != api.OK {
		t.Fatalf("the model refuses %s of %s: %d", letters(v), letters(from), code)
	}
}

// checkAll: all that can be told of a registry is as the model tells it, of these names, too, of which there mostly is no version.
func checkAll(t *testing.T, name string, r *Registry, m *model, more ...api.Hash) {
	t.Helper()
	all := m.names()
	if got := r.Versions(); !slices.Equal(got, all) {
		t.Errorf("%s: Versions: %x, not %x", name, got, all)
	}
	all = append(all, more...)
	for _, v := range all {
		checkVersion(t, name, r, m, v)
		for _, w := range all {
			checkPath(t, name, r, m, v, w)
		}
		checkOut(t, name, r, m, v)
	}
}

// checkVersion: all that is told of one version alone.
func checkVersion(t *testing.T, name string, r *Registry, m *model, v api.Hash) {
	t.Helper()
	k := m.place(v)
	want := item{}
	if k >= 0 {
		want = m.all[k]
	}
	if s, ok := r.Schema(v); !sameSchema(s, want.s) || ok != (k >= 0) {
		t.Errorf("%s: Schema of %x: %v %v, not %v", name, v, s, ok, want.s)
	}
	if l, ok := r.Lens(v); !sameLens(l, want.l) || ok != (k > 0) {
		t.Errorf("%s: Lens of %x: %v %v, not %v", name, v, l, ok, want.l)
	}
	if from, ok := r.From(v); from != want.from || ok != (k > 0) {
		t.Errorf("%s: From of %x: %x %v, not %x", name, v, from, ok, want.from)
	}
	if got := r.Depth(v); got != m.wantDepth(v) {
		t.Errorf("%s: Depth of %x: %d, not %d", name, v, got, m.wantDepth(v))
	}
}

// checkPath: P20.2, P20.3: the path from one version to another one; back it is the same, turned about.
func checkPath(t *testing.T, name string, r *Registry, m *model, v, w api.Hash) {
	t.Helper()
	want := m.wantPath(v, w)
	got, ok := r.Path(v, w)
	if !slices.Equal(got, want) || ok != (want != nil) {
		t.Errorf("%s: Path from %x to %x: %s %v, not %s", name, v, w, letters(got...), ok, letters(want...))
	}
	back, ok := r.Path(w, v)
	slices.Reverse(back)
	if !slices.Equal(back, want) || ok != (want != nil) {
		t.Errorf("%s: Path from %x to %x and back: %s %v, not %s", name, v, w, letters(back...), ok, letters(want...))
	}
}

// checkOut: P20.2, P20.3: the way out of a version; it reaches each other version once.
func checkOut(t *testing.T, name string, r *Registry, m *model, v api.Hash) {
	t.Helper()
	want := m.wantOut(v)
	got := r.Out(v)
	if !slices.Equal(got, want) {
		t.Errorf("%s: Out of %x: %s, not %s", name, v, edges(got), edges(want))
	}
	if m.place(v) < 0 {
		return
	}
	reached := []api.Hash{v}
	for _, e := range got {
		if !slices.Contains(reached, e.From) || slices.Contains(reached, e.To) {
			t.Errorf("%s: Out of %x: %s", name, v, edges(got))
		}
		reached = append(reached, e.To)
	}
	if len(reached) != len(m.all) {
		t.Errorf("%s: Out of %x reaches %d of %d", name, v, len(reached), len(m.all))
	}
}
