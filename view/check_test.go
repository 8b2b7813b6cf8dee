package view

import (
	"reflect"
	"slices"
	"testing"

	"dioptre/api"
	"dioptre/fault"
	"dioptre/restore"
	"dioptre/sample"
	"dioptre/trial"
)

// comes: an entry comes in; it stays as it is, its spare room, too, and isn't kept.
func comes(t *testing.T, v *Views, m *model, k int, name api.Hash, e api.Entry) {
	t.Helper()
	m.come(k, name, e)
	x := sample.RoomyEntry(e)
	kept := sample.WholeEntry(x)
	if err := v.Insert(k, name, x); err != nil {
		t.Fatalf("Insert of %x at %d of %d: %v", name, k, v.Len(), err)
	}
	if !reflect.DeepEqual(sample.WholeEntry(x), kept) {
		t.Errorf("Insert of %x has changed the entry %v", name, e)
	}
	sample.ScrambleEntry(x)
}

// further: entries come in, behind all others; the names' seeds go on from that number.
func further(t *testing.T, v *Views, m *model, from byte, l ...api.Entry) {
	t.Helper()
	for i, e := range l {
		comes(t, v, m, v.Len(), named(from+byte(i)), e)
	}
}

// sees: a version sees just that.
func sees(t *testing.T, name string, v *Views, version api.Hash, want string) {
	t.Helper()
	if d, e := v.Read(version); e != nil || text(d) != want {
		t.Errorf("%s: %x sees %s %v, not %s", name, version, text(d), e, want)
	}
}

// checkAll: all that can be told of views is as the model tells it, of these names, too, of which there mostly is no version.
func checkAll(t *testing.T, name string, v *Views, m *model, more ...api.Hash) versions {
	t.Helper()
	l := m.views()
	if v.Len() != len(m.all) || v.Saved() != len(m.all)/v.every+1 {
		t.Errorf("%s: Len, Saved: %d, %d, not %d, each %dth", name, v.Len(), v.Saved(), len(m.all), v.every)
	}
	all := l.names()
	if got := v.Versions(); !slices.Equal(got, all) {
		t.Errorf("%s: Versions: %x, not %x", name, got, all)
	}
	for k, x := range l {
		checkVersion(t, name, v, x, k > 0)
	}
	for _, h := range more {
		if l.place(h) < 0 {
			checkNone(t, name, v, h)
		}
	}
	checkPaths(t, name, v, l, append(all, more...))
	return l
}

// checkVersion: what is told of a version; that it is related to what it was made of, if it was.
func checkVersion(t *testing.T, name string, v *Views, want version, made bool) {
	t.Helper()
	d, e := v.Read(want.name)
	if e != nil || !same(d, want.doc) {
		t.Errorf("%s: Read of %x: %s %v, not %s", name, want.name, text(d), e, text(want.doc))
	}
	s, e := v.Schema(want.name)
	if e != nil || !sameSchema(s, want.s) {
		t.Errorf("%s: Schema of %x: %v %v, not %v", name, want.name, s, e, want.s)
	}
	l, ok := v.Lens(want.name)
	if ok != made || !sameLens(l, want.l) {
		t.Errorf("%s: Lens of %x: %v %v, not %v", name, want.name, l, ok, want.l)
	}
	if !made {
		return
	}
	// P21.3.
	from, _ := v.Schema(want.from)
	there, _ := v.Read(want.from)
	if !restore.Related(l, from, there, d) {
		t.Errorf("%s: %s and %s aren't related by %v", name, text(there), text(d), l)
	}
}

// checkNone: what is told of what is no version.
func checkNone(t *testing.T, name string, v *Views, h api.Hash) {
	t.Helper()
	d, e := v.Read(h)
	trial.Code(t, name+": Read", e, api.ErrNone)
	s, e := v.Schema(h)
	trial.Code(t, name+": Schema", e, api.ErrNone)
	l, ok := v.Lens(h)
	if !reflect.DeepEqual(d, api.Value{}) || !reflect.DeepEqual(s, api.Schema{}) || !reflect.DeepEqual(l, api.Lens{}) || ok {
		t.Errorf("%s: %x is no version: %v, %v, %v %v", name, h, d, s, l, ok)
	}
}

// checkPaths: the paths between each two of these names are the registry's.
func checkPaths(t *testing.T, name string, v *Views, l versions, all []api.Hash) {
	t.Helper()
	r := l.registry(t)
	for _, a := range all {
		for _, b := range all {
			got, ok := v.Path(a, b)
			if want, there := r.Path(a, b); !slices.Equal(got, want) || ok != there {
				t.Errorf("%s: Path from %x to %x: %x %v, not %x", name, a, b, got, ok, want)
			}
		}
	}
}

// refused: an entry doesn't come in, and nothing changes by it.
func refused(t *testing.T, name string, v *Views, m *model, k int, e api.Entry) {
	t.Helper()
	trial.Code(t, name, v.Insert(k, named(77), e), api.ErrArg)
	checkAll(t, name, v, m, named(77))
	if t.Failed() {
		t.Fatalf("that was at %d of %d, error %d", k, v.Len(), fault.Code(v.Insert(k, named(77), e)))
	}
}
