package sample

import "dioptre/api"

// Hash is a name that begins, and ends, so.
func Hash(first, last byte) api.Hash { return api.Hash{0: first, 31: last} }

// Hashes are names in their order; some differ in their first byte, others in their last one alone.
func Hashes() []api.Hash {
	return []api.Hash{{}, Hash(0, 1), Hash(0, 255), Hash(1, 0), Hash(127, 0), Hash(128, 0), Hash(255, 255)}
}

// SomeHash is a name; many begin alike, or are alike.
func SomeHash(pick func(n int) int) api.Hash {
	var h api.Hash
	h[[]int{0, 1, 30, 31}[pick(4)]] = []byte{0, 1, 2, 127, 128, 255}[pick(6)]
	return h
}

// ScrambleHashes overwrites all names, those in spare room, too.
func ScrambleHashes(l []api.Hash) {
	for i := range l[:cap(l)] {
		l[:cap(l)][i] = Hash(77, 77)
	}
}
