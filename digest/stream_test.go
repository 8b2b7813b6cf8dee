package digest

import (
	"bytes"
	"crypto/sha256"
	"slices"
	"testing"
)

// checkStream: the stream has had just these bytes; it is asked twice.
func checkStream(t *testing.T, name string, s *Stream, b []byte) {
	t.Helper()
	want := sha256.Sum256(b)
	for range 2 {
		if got := s.Sum(); got != want {
			t.Errorf("%s, %d bytes: Sum is %x, not %x", name, len(b), got, want)
		}
		if got := s.Size(); got != len(b) {
			t.Errorf("%s: Size is %d, not %d", name, got, len(b))
		}
	}
}

// TestNew: P3.2: a stream of nothing, and none shares with another one.
func TestNew(t *testing.T) {
	s, other := New(), New()
	if s == nil || other == nil || s == other {
		t.Fatal("New")
	}
	checkStream(t, "a new stream", s, nil)
	s.Write([]byte("abc"))
	other.Write([]byte("d"))
	checkStream(t, "the one", s, []byte("abc"))
	checkStream(t, "the other one", other, []byte("d"))
	checkStream(t, "one made later", New(), nil)
}

// TestStream: P3.2: it is asked ahead of the first write, between all of them, and behind the last one.
func TestStream(t *testing.T) {
	b := message(400)
	for _, n := range []int{1, 2, 3, 7, 31, 55, 56, 63, 64, 65, 119, 120, 128, 129, 400} {
		s := New()
		checkStream(t, "ahead of the first write", s, nil)
		at := 0
		for part := range slices.Chunk(b, n) {
			s.Write(part)
			at += len(part)
			checkStream(t, "behind a write", s, b[:at])
		}
	}
}

// TestStreamParts: P3.2: two writes that meet at any place, with and without a question between.
func TestStreamParts(t *testing.T) {
	for _, n := range edges {
		b := message(n)
		for i := range n + 1 {
			quiet, asked := New(), New()
			quiet.Write(b[:i])
			quiet.Write(b[i:])
			checkStream(t, "not asked", quiet, b)
			asked.Write(b[:i])
			asked.Sum()
			asked.Sum()
			asked.Write(b[i:])
			checkStream(t, "asked", asked, b)
		}
	}
}

// TestStreamOfNothing: P3.2: nothing comes behind, and nothing changes.
func TestStreamOfNothing(t *testing.T) {
	s := New()
	s.Write(nil)
	s.Write([]byte{})
	checkStream(t, "nothing was written", s, nil)
	s.Write([]byte("abc"))
	s.Write(nil)
	s.Write([]byte{})
	checkStream(t, "nothing more was written", s, []byte("abc"))
	s.Write([]byte("d"))
	checkStream(t, "more was written", s, []byte("abcd"))
}

// TestNilStream: P3.2: Sum256 of nothing, 0; what is written is nowhere.
func TestNilStream(t *testing.T) {
	var s *Stream
	checkStream(t, "a nil stream", s, nil)
	s.Write([]byte("abc"))
	s.Write(nil)
	checkStream(t, "a nil stream, written to", s, nil)
}

// TestStreamHandedIn: what is handed in is neither changed nor kept.
func TestStreamHandedIn(t *testing.T) {
	b := message(200)
	kept := slices.Clone(b)
	s := New()
	s.Write(b[:70])
	if !bytes.Equal(b, kept) {
		t.Error("what was written has changed, or its spare room")
	}
	clear(b)
	checkStream(t, "what was written is cleared", s, kept[:70])
	sum := s.Sum()
	sum[0]++
	checkStream(t, "what was told is changed", s, kept[:70])
}

// TestStreamSmall: a stream keeps no more than it needs, however much comes.
func TestStreamSmall(t *testing.T) {
	s, b := New(), message(1000)
	if n := testing.AllocsPerRun(100, func() { s.Write(b) }); n != 0 {
		t.Errorf("a write of 1000 bytes takes new memory %v times", n)
	}
}
