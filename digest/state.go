package digest

// state is a sum, as far as the bytes have come. It keeps no more of them than one block.
type state[W word] struct {
	sum   [8]W
	block [16]W // what came behind the last full block, from its first word on
	size  int   // how many bytes came
}

// start is the state ahead of the first byte.
func start[W word]() state[W] {
	var s state[W]
	for i := range s.sum {
		s.sum[i] = top[W](starts[i])
	}
	return s
}

// take lets bytes come behind the others.
func (s *state[W]) take(b []byte) {
	for _, c := range b {
		s.put(c)
	}
}

func (s *state[W]) put(c byte) {
	i := s.size / wordBytes[W]() % len(s.block)
	// What an earlier block left in this word goes out at its top by and by.
	s.block[i] = s.block[i]<<8 | W(c)
	s.size++
	if s.filled() == 0 {
		s.mix()
	}
}

// filled is how many bytes the block has that isn't full yet.
func (s *state[W]) filled() int { return s.size % (len(s.block) * wordBytes[W]()) }

// end is the sum of all that came, filled up. It works on a copy of the state, so that more may come behind.
func (s state[W]) end() [8]W {
	size := uint64(s.size)
	s.put(0x80)
	for s.filled() != 14*wordBytes[W]() {
		s.put(0)
	}
	// How many bits there are, eight to a byte, has two words in both sums.
	s.block[14], s.block[15] = W(size>>(width[W]()-3)), W(size<<3)
	s.mix()
	return s.sum
}

// mix adds a full block to the sum.
func (s *state[W]) mix() {
	words := stretch(s.block)
	a, b, c, d, e, f, g, h := s.sum[0], s.sum[1], s.sum[2], s.sum[3], s.sum[4], s.sum[5], s.sum[6], s.sum[7]
	for i := range roundsOf[W]() {
		t := h + large1(e) + (e&f ^ ^e&g) + top[W](rounds[i]) + words[i]
		u := large0(a) + (a&b ^ a&c ^ b&c)
		a, b, c, d, e, f, g, h = t+u, a, b, c, d+t, e, f, g
	}
	for i, x := range [8]W{a, b, c, d, e, f, g, h} {
		s.sum[i] += x
	}
}

// stretch makes of the words of a block one for each round.
func stretch[W word](block [16]W) [80]W {
	var w [80]W
	copy(w[:], block[:])
	for i := len(block); i < roundsOf[W](); i++ {
		w[i] = small1(w[i-2]) + w[i-7] + small0(w[i-15]) + w[i-16]
	}
	return w
}

// roundsOf is how many rounds a block has.
func roundsOf[W word]() int {
	if width[W]() == 32 {
		return 64
	}
	return 80
}
