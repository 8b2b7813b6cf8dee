package delta

import (
	"math"
	"slices"
	"testing"
)

// TestCommon: P13.3: how many numbers stand in both lists in the same order, as many as can be.
func TestCommon(t *testing.T) {
	type numbers = []uint64
	const most = math.MaxUint64
	for _, c := range []struct {
		a, b numbers
		want int
	}{
		{nil, nil, 0},
		{numbers{}, nil, 0},
		{numbers{1}, nil, 0},
		{numbers{1}, numbers{1}, 1},
		{numbers{1}, numbers{2}, 0},
		{numbers{0}, numbers{0}, 1},
		{numbers{most}, numbers{most}, 1},
		{numbers{most}, numbers{0}, 0},
		{numbers{1, 2, 3, 4}, numbers{2, 4, 3}, 2},
		{numbers{1, 2, 3}, numbers{1, 2, 3}, 3},
		{numbers{1, 2, 3}, numbers{3, 2, 1}, 1},
		{numbers{1, 2, 3}, numbers{3, 1, 2}, 2},
		{numbers{1, 2, 3}, numbers{4, 5, 6}, 0},
		{numbers{1, 2, 3, 4, 5}, numbers{5, 1, 4, 2, 3}, 3},
		{numbers{1, 2, 3}, numbers{9, 1, 8, 2, 7, 3, 6}, 3},
		{numbers{1, 1}, numbers{1}, 1},
		{numbers{1, 1, 1}, numbers{1, 1}, 2},
		{numbers{0, 0, 0}, numbers{0, 0, 0}, 3},
		{numbers{1, 2, 1}, numbers{2, 1, 2}, 2},
		{numbers{1, 2, 2, 1}, numbers{2, 1, 1, 2}, 2},
		{numbers{1, 1, 2, 2}, numbers{2, 2, 1, 1}, 2},
		{numbers{1, 3, 5, 2, 4}, numbers{1, 2, 3, 4, 5}, 3},
	} {
		for range 2 {
			if got := Common(c.a, c.b); got != c.want || wantCommon(c.a, c.b) != c.want {
				t.Errorf("Common(%v, %v): %d, not %d, the model: %d", c.a, c.b, got, c.want, wantCommon(c.a, c.b))
			}
			c.a, c.b = c.b, c.a
		}
	}
}

// TestCommonAll: P13.3: all lists of at most five numbers of three.
func TestCommonAll(t *testing.T) {
	all := [][]uint64{nil}
	for i := 0; i < len(all); i++ {
		for n := uint64(0); n < 3 && len(all[i]) < 5; n++ {
			all = append(all, append(slices.Clone(all[i]), n))
		}
	}
	for _, a := range all {
		for _, b := range all {
			if got, want := Common(a, b), wantCommon(a, b); got != want {
				t.Fatalf("Common(%v, %v): %d, not %d", a, b, got, want)
			}
		}
	}
}

// TestCommonAny: P13.3: any lists, as the model says; they stay as they are, their spare room, too.
func TestCommonAny(t *testing.T) {
	r := chance()
	some := func() []uint64 {
		kinds := []uint64{2, 5, 30, 1000}[r.IntN(4)]
		l := make([]uint64, r.IntN(80), 100)
		for i := range l[:cap(l)] {
			l[:cap(l)][i] = r.Uint64N(kinds)
		}
		return l
	}
	for range 3000 {
		a, b := some(), some()
		keptA, keptB := slices.Clone(a[:cap(a)]), slices.Clone(b[:cap(b)])
		if got, want := Common(a, b), wantCommon(a, b); got != want {
			t.Fatalf("Common(%v, %v): %d, not %d", a, b, got, want)
		}
		if !slices.Equal(a[:cap(a)], keptA) || !slices.Equal(b[:cap(b)], keptB) {
			t.Fatal("Common has changed its lists")
		}
	}
}

// leaves tells whether one gets a list from another one by leaving numbers out.
func leaves(l, from []uint64) bool {
	for _, n := range from {
		if len(l) > 0 && l[0] == n {
			l = l[1:]
		}
	}
	return len(l) == 0
}

// TestCommonList: P13.3: the list itself that Between keeps in its order: one gets it from either, and it is as long as can be.
func TestCommonList(t *testing.T) {
	r := chance()
	some := func() []uint64 {
		kinds := []uint64{2, 5, 30}[r.IntN(3)]
		l := make([]uint64, r.IntN(14))
		for i := range l {
			l[i] = r.Uint64N(kinds)
		}
		return l
	}
	for range 5000 {
		a, b := some(), some()
		if l := common(a, b); len(l) != wantCommon(a, b) || !leaves(l, a) || !leaves(l, b) {
			t.Fatalf("common(%v, %v): %v", a, b, l)
		}
	}
}

// TestCommonLong: P13.3: lists of very many numbers.
func TestCommonLong(t *testing.T) {
	const n = 300000
	var up, down, half []uint64
	for i := range uint64(n) {
		up, down = append(up, i), append(down, n-i)
		if i%2 == 0 {
			half = append(half, i)
		}
	}
	for _, c := range []struct {
		a, b []uint64
		want int
	}{
		{up, up, n}, {down, down, n}, {up, down, 1}, {up, half, n / 2}, {half, up, n / 2}, {up, slices.Concat(half, half), n / 2}, {up, nil, 0},
		{make([]uint64, 2000), make([]uint64, 3000), 2000},
	} {
		if got := Common(c.a, c.b); got != c.want {
			t.Errorf("Common of %d and %d numbers: %d, not %d", len(c.a), len(c.b), got, c.want)
		}
	}
}
