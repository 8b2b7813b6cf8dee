package pack

const (
	goesOn  = 0x80 // the bit of all bytes of a number but its last one
	lowBits = 0x7f // the bits of a digit
)

// split is the number at the beginning of bytes, and how many bytes it has: none, where no number is.
func split(b []byte) (n uint64, size int) {
	for i, c := range b {
		// A tenth digit has room for one bit, and nothing comes behind it.
		if i == 9 && c > 1 {
			return 0, 0
		}
		n |= uint64(c&lowBits) << (7 * i)
		if c&goesOn != 0 {
			continue
		}
		// A last digit of 0 could have been left out, but that of the number 0.
		if c == 0 && i > 0 {
			return 0, 0
		}
		return n, i + 1
	}
	return 0, 0
}

// fold is the number that stands for a signed one: 2n, or -2n - 1 below 0, so that small ones stay small.
func fold(n int) uint64 {
	if n < 0 {
		return ^(uint64(n) << 1)
	}
	return uint64(n) << 1
}

// unfold is the signed number for which one stands.
func unfold(n uint64) int {
	if n&1 == 1 {
		return int(^(n >> 1))
	}
	return int(n >> 1)
}
