package dag

import (
	"slices"

	"dioptre/api"
	"dioptre/entry"
	"dioptre/schema"
	"dioptre/sign"
)

// Right tells whether a genesis is.
func Right(g api.Genesis) bool {
	_, err := schema.Encode(g.Root)
	return err == nil && g.Root.Kind == api.Record && known(g.Writers) && known(g.Admins) &&
		1 <= g.Most && g.Most <= api.MaxEntries && 0 <= g.Wait && g.Wait <= api.MaxWait
}

// known tells whether keys are as many as may be, and each a point's bytes.
func known(keys []api.Key) bool {
	return len(keys) <= api.MaxKeys && !slices.ContainsFunc(keys, func(k api.Key) bool { return !sign.Known(k) })
}

// Root is a genesis's name.
func Root(g api.Genesis) api.Hash {
	if !Right(g) {
		return api.Hash{}
	}
	// What is right has bytes.
	b, _ := schema.Encode(g.Root)
	return entry.Name(appendKeys(appendKeys(b, g.Writers), g.Admins))
}

// appendKeys lays how many keys there are, and each, behind bytes.
func appendKeys(b []byte, keys []api.Key) []byte {
	b = append(b, byte(len(keys)))
	for _, k := range keys {
		b = append(b, k[:]...)
	}
	return b
}

// copied is the same genesis.
func copied(g api.Genesis) api.Genesis {
	g.Root, g.Writers, g.Admins = schema.Copy(g.Root), slices.Clone(g.Writers), slices.Clone(g.Admins)
	return g
}
