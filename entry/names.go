package entry

import (
	"bytes"
	"slices"

	"dioptre/api"
	"dioptre/digest"
)

// Name is the name of bytes.
func Name(b []byte) api.Hash { return digest.Sum256(b) }

// Less tells whether a name is ahead of another one.
func Less(a, b api.Hash) bool { return compare(a, b) < 0 }

func compare(a, b api.Hash) int { return bytes.Compare(a[:], b[:]) }

// Sort is names in their order, each once.
func Sort(l ...api.Hash) []api.Hash {
	l = slices.Clone(l)
	slices.SortFunc(l, compare)
	return slices.Compact(l)
}

// rise tells whether names are in their order, none of them twice.
func rise(l []api.Hash) bool { return slices.Equal(l, Sort(l...)) }

// Seed is the number of a name's first bytes.
func Seed(h api.Hash) uint64 {
	var n uint64
	for _, c := range h[:8] {
		n = n<<8 | uint64(c)
	}
	return n
}
