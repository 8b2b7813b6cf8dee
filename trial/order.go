package trial

import "dioptre/api"

// Ahead tells whether a name is ahead of another one, byte by byte.
func Ahead(a, b api.Hash) bool {
	for i, c := range a {
		if c != b[i] {
			return c < b[i]
		}
	}
	return false
}

// Sorted is things in their order, each once: first that of which no other one is ahead, then so on with those that are left.
func Sorted[X comparable](l []X, ahead func(a, b X) bool) []X {
	left := map[X]bool{}
	for _, x := range l {
		left[x] = true
	}
	var sorted []X
	for len(left) > 0 {
		var first X
		found := false
		for x := range left {
			if !found || ahead(x, first) {
				first, found = x, true
			}
		}
		delete(left, first)
		sorted = append(sorted, first)
	}
	return sorted
}
