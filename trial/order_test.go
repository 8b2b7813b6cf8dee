package trial

import (
	"slices"
	"testing"

	"dioptre/api"
)

// TestAhead: the first byte that isn't the same says which name is ahead; a byte is from 0 to 255.
func TestAhead(t *testing.T) {
	for i := range 32 {
		var a, b api.Hash
		a[i], b[i] = 127, 128
		for k := i + 1; k < 32; k++ {
			a[k], b[k] = 9, 3
		}
		if !Ahead(a, b) || Ahead(b, a) || Ahead(a, a) {
			t.Errorf("at %d: %v, %v, %v", i, Ahead(a, b), Ahead(b, a), Ahead(a, a))
		}
	}
}

// TestSorted: each thing once, that of which no other one is ahead first; what is handed in stays.
func TestSorted(t *testing.T) {
	less := func(a, b int) bool { return a < b }
	for _, c := range []struct{ l, want []int }{{nil, nil}, {[]int{3}, []int{3}}, {[]int{0, -1}, []int{-1, 0}}, {[]int{2, 2, 1, 3, 1}, []int{1, 2, 3}}, {[]int{1, 2, 3}, []int{1, 2, 3}}} {
		kept := slices.Clone(c.l)
		if got := Sorted(c.l, less); !slices.Equal(got, c.want) || !slices.Equal(c.l, kept) {
			t.Errorf("%v: %v", kept, got)
		}
	}
	if got := Sorted([]int{1, 2, 3}, func(a, b int) bool { return a > b }); !slices.Equal(got, []int{3, 2, 1}) {
		t.Error("turned about:", got)
	}
}
