// Package tree goes through what has parts of its own kind, such as values and schemas, however deep these lie.
package tree

import "math/bits"

// member is one that is gone through just now.
type member[T any] struct {
	at   *T
	done int // how many of its parts were handed on
}

// Walk hands on each member of a tree and its depth: the root first, each part's ones behind it, in order. It tells whether the tree has an end; it goes no further where one lies within itself. (A list stands for calls within calls: of a deep tree there would be more of these than the program can hold.)
func Walk[T any](root *T, parts func(x *T) []T, visit func(x *T, depth int)) bool {
	visit(root, 1)
	way := []member[T]{{at: root}}
	for len(way) > 0 {
		last := &way[len(way)-1]
		l := parts(last.at)
		if last.done == len(l) {
			way = way[:len(way)-1]
			continue
		}
		next := &l[last.done]
		last.done++
		if next == kept(way) {
			return false
		}
		way = append(way, member[T]{at: next})
		visit(next, len(way))
	}
	return true
}

// kept is the member against which the next one is held. It changes after ever more steps: at last it lies in the ring, if there is one, and stays there for a whole round.
func kept[T any](way []member[T]) *T {
	depth := 1 << (bits.Len(uint(len(way))) - 1)
	return way[depth-1].at
}

// Ends tells whether a tree has an end.
func Ends[T any](x T, parts func(x *T) []T) bool {
	return Walk(&x, parts, func(*T, int) {})
}

// Depth is how deep a tree is; 0, if it has no end.
func Depth[T any](x T, parts func(x *T) []T) int {
	deepest := 0
	if !Walk(&x, parts, func(_ *T, depth int) { deepest = max(deepest, depth) }) {
		return 0
	}
	return deepest
}

// Size is how many members a tree has; 0, if it has no end.
func Size[T any](x T, parts func(x *T) []T) int {
	size := 0
	if !Walk(&x, parts, func(*T, int) { size++ }) {
		return 0
	}
	return size
}

// Copy is the same tree: own makes all lists of a member its own, that of its parts, too. Of a tree without an end it is zero.
func Copy[T any](x T, parts func(x *T) []T, own func(x *T)) T {
	if !Ends(x, parts) {
		var none T
		return none
	}
	// A member's parts are told behind its visit: they are the copy's own ones already.
	Walk(&x, parts, func(m *T, _ int) { own(m) })
	return x
}

// Same tells whether two trees are the same: alike holds two members against each other, without their parts. One without an end is the same as none.
func Same[T any](a, b T, parts func(x *T) []T, alike func(x, y *T) bool) bool {
	// Beside one with an end there is no going on for ever.
	if !Ends(a, parts) {
		return false
	}
	left := [][2]*T{{&a, &b}}
	for len(left) > 0 {
		x, y := left[len(left)-1][0], left[len(left)-1][1]
		left = left[:len(left)-1]
		l, m := parts(x), parts(y)
		if len(l) != len(m) || !alike(x, y) {
			return false
		}
		for i := range l {
			left = append(left, [2]*T{&l[i], &m[i]})
		}
	}
	return true
}
