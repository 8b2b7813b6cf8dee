package digest

import "math/bits"

// word is what a sum reckons with: SHA-256 with 32 bits, SHA-512 with 64.
type word interface{ uint32 | uint64 }

// width is how many bits a word has.
func width[W word]() int { return bits.Len64(uint64(^W(0))) }

func wordBytes[W word]() int { return width[W]() / 8 }

// top is the first bits of a constant, as many as a word has.
func top[W word](constant uint64) W { return W(constant >> (64 - width[W]())) }

// turn is a word, turned right.
func turn[W word](x W, n int) W { return x>>n | x<<(width[W]()-n) }

// large0, large1, small0 and small1 are S0, S1, s0 and s1 of the document.
func large0[W word](x W) W {
	if width[W]() == 32 {
		return turn(x, 2) ^ turn(x, 13) ^ turn(x, 22)
	}
	return turn(x, 28) ^ turn(x, 34) ^ turn(x, 39)
}

func large1[W word](x W) W {
	if width[W]() == 32 {
		return turn(x, 6) ^ turn(x, 11) ^ turn(x, 25)
	}
	return turn(x, 14) ^ turn(x, 18) ^ turn(x, 41)
}

func small0[W word](x W) W {
	if width[W]() == 32 {
		return turn(x, 7) ^ turn(x, 18) ^ x>>3
	}
	return turn(x, 1) ^ turn(x, 8) ^ x>>7
}

func small1[W word](x W) W {
	if width[W]() == 32 {
		return turn(x, 17) ^ turn(x, 19) ^ x>>10
	}
	return turn(x, 19) ^ turn(x, 61) ^ x>>6
}

// spread lays words out as bytes, the highest one first, as many as there is room for in out.
func spread[W word](l [8]W, out []byte) {
	size := wordBytes[W]()
	for i := range out {
		out[i] = byte(l[i/size] >> (8 * (size - 1 - i%size)))
	}
}
