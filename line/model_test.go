package line

import (
	"math"
	"math/rand/v2"
	"slices"

	"dioptre/api"
	"dioptre/sample"
	"dioptre/trial"
)

// chance makes numbers, always the same ones.
func chance() *rand.Rand { return rand.New(rand.NewPCG(18, 2026)) }

// markOf is a mark whose name begins, and ends, so.
func markOf(depth int, first, last byte) api.Mark {
	return api.Mark{Depth: depth, Id: sample.Hash(first, last)}
}

// rising are marks in their order: of each depth those of names in their order.
func rising() []api.Mark {
	var l []api.Mark
	for _, depth := range []int{math.MinInt, -2, -1, 0, 1, 2, 64, math.MaxInt} {
		for _, h := range sample.Hashes() {
			l = append(l, api.Mark{Depth: depth, Id: h})
		}
	}
	return l
}

// wantLess: whether a mark is ahead, by the chapter's words.
func wantLess(a, b api.Mark) bool {
	return a.Depth < b.Depth || a.Depth == b.Depth && trial.Ahead(a.Id, b.Id)
}

// wantLine: marks as a line, by the chapter's words.
func wantLine(l ...api.Mark) []api.Mark { return trial.Sorted(l, wantLess) }

// someMark is a mark; many are alike, others differ in their depth, or in their name, alone.
func someMark(r *rand.Rand) api.Mark {
	return api.Mark{Depth: []int{-1, 0, 1, 1, 1, 2, 3, math.MaxInt}[r.IntN(8)], Id: sample.SomeHash(r.IntN)}
}

// someMarks are as many marks.
func someMarks(r *rand.Rand, n int) []api.Mark {
	var l []api.Mark
	for range n {
		l = append(l, someMark(r))
	}
	return l
}

// shuffled are the same marks in another order.
func shuffled(r *rand.Rand, l []api.Mark) []api.Mark {
	l = slices.Clone(l)
	r.Shuffle(len(l), func(i, k int) { l[i], l[k] = l[k], l[i] })
	return l
}

// lent are marks with spare room in which something stands, and a call that tells whether all that stays.
func lent(l []api.Mark) ([]api.Mark, func() bool) {
	all := append(slices.Clone(l), markOf(98, 98, 98), markOf(99, 99, 99))
	kept := slices.Clone(all)
	return all[:len(l)], func() bool { return slices.Equal(all, kept) }
}

// overwrite lays another mark everywhere, into spare room, too.
func overwrite(l []api.Mark) {
	for i := range l[:cap(l)] {
		l[:cap(l)][i] = markOf(77, 77, 77)
	}
}
