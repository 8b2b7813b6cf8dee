package delta

import (
	"slices"

	"dioptre/api"
)

// arrange is operations that give the list x the elements of y, in their order. What is within an element of both stays as it is.
func arrange(p []api.Step, x, y api.Value) []api.Op {
	var l []api.Op
	tell := func(o api.Op) {
		o.Path = slices.Clone(p)
		l = append(l, o)
	}
	// First of all elements go: so there is room for those that come.
	for _, id := range x.Ids {
		if !slices.Contains(y.Ids, id) {
			tell(api.Op{Kind: api.Delete, Id: id})
		}
	}
	stay := common(x.Ids, y.Ids)
	after := uint64(0)
	for i, id := range y.Ids {
		if !slices.Contains(x.Ids, id) {
			tell(api.Op{Kind: api.Insert, Id: id, After: after, Value: y.Parts[i]})
		} else if !slices.Contains(stay, id) {
			tell(api.Op{Kind: api.Move, Id: id, After: after})
		}
		after = id
	}
	return l
}

// common is a longest list of numbers that stand in both lists in the same order.
func common(a, b []uint64) []uint64 {
	var l []uint64
	left := Common(a, b)
	for j, n := range b {
		i := slices.Index(a, n)
		if i >= 0 && 1+Common(a[i+1:], b[j+1:]) == left {
			l, a = append(l, n), a[i+1:]
			left--
		}
	}
	return l
}

// Common is how many numbers stand in both lists in the same order.
func Common(a, b []uint64) int {
	places := map[uint64][]int{}
	for i, n := range slices.Backward(a) {
		places[n] = append(places[n], i)
	}
	// ends[k] is the first place of a at which k+1 numbers may end that stand in what was gone through of b, too.
	var ends []int
	for _, n := range b {
		// The last place comes first, so that n isn't taken behind itself.
		for _, i := range places[n] {
			k, _ := slices.BinarySearch(ends, i)
			if k == len(ends) {
				ends = append(ends, i)
			}
			ends[k] = i
		}
	}
	return len(ends)
}
