package sign

import (
	"dioptre/api"
	"dioptre/curve"
	"dioptre/digest"
)

// secret is what a seed tells to its owner alone.
type secret struct {
	number [32]byte // how often its key is the base
	salt   [32]byte // what stands ahead of a message, so that nobody else can tell r
}

// secretOf is a seed's secret.
func secretOf(seed api.Seed) secret {
	sum := digest.Sum512(seed[:])
	own := secret{[32]byte(sum[:32]), [32]byte(sum[32:])}
	own.number[0] &^= 0x07
	own.number[31] = own.number[31]&^0x80 | 0x40
	return own
}

// key is its key.
func (s secret) key() api.Key { return curve.Base().Mul(s.number).Bytes() }
