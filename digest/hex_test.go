package digest

import (
	"bytes"
	"encoding/hex"
	"strings"
	"testing"

	"dioptre/api"
)

// checkNone: a text that is the Hex of no bytes; the error is in no place.
func checkNone(t *testing.T, s string) {
	t.Helper()
	if b, e := Parse(s); e != error(api.ErrForm) || len(b) != 0 {
		t.Errorf("Parse of %q: %x, %v", s, b, e)
	}
}

// checkBoth: bytes, and the text that is their Hex.
func checkBoth(t *testing.T, b []byte, s string) {
	t.Helper()
	if got := Hex(b); got != s {
		t.Errorf("Hex of %x: %q, not %q", b, got, s)
	}
	if got, e := Parse(s); e != nil || !bytes.Equal(got, b) {
		t.Errorf("Parse of %q: %x, %v", s, got, e)
	}
}

// TestHex: P3.3: two digits of each byte, and back.
func TestHex(t *testing.T) {
	checkBoth(t, nil, "")
	checkBoth(t, []byte{}, "")
	checkBoth(t, []byte{0}, "00")
	checkBoth(t, []byte{0, 0, 0}, "000000")
	checkBoth(t, []byte{0x0a, 0xff}, "0aff")
	checkBoth(t, []byte{0x01, 0x23, 0x45, 0x67, 0x89, 0xab, 0xcd, 0xef}, "0123456789abcdef")
	for n := range 300 {
		b := message(n)
		checkBoth(t, b, hex.EncodeToString(b))
	}
}

// TestTwoDigits: P3.3: of all texts of two bytes, those that are some byte's Hex are read, and no others.
func TestTwoDigits(t *testing.T) {
	byText := map[string]byte{}
	for c := range 256 {
		s := Hex([]byte{byte(c)})
		if s != hex.EncodeToString([]byte{byte(c)}) {
			t.Errorf("Hex of %x: %q", c, s)
		}
		byText[s] = byte(c)
	}
	for n := range 1 << 16 {
		s := string([]byte{byte(n), byte(n >> 8)})
		c, ok := byText[s]
		if !ok {
			checkNone(t, s)
			checkNone(t, "00"+s)
			checkNone(t, s+"ff")
			continue
		}
		checkBoth(t, []byte{c}, s)
	}
}

// TestParseOfNone: P3.3: ErrForm of what is no Hex.
func TestParseOfNone(t *testing.T) {
	for _, s := range []string{
		"0", "f", "000", "abc", "0123456789abcde", // odd
		"0A", "A0", "FF", "aF", "00112233445566778899AABBCCDDEEFF", // capital letters
		"xy", "0x", "0x00", "0g", "g0", " 0", "0 ", "00 ", " 00", " 00 ", "00 00", "00\n", "\n0", "0-", "-1", "+1", "1_", "..", // other signs
		"/0", ":0", "`0", "g0", "@0", "G0", "0/", "0:", "0`", // beside the digits
		"\x00\x00", "\xff\xff", "0\x00", "é", "０0", "𝟎", // no ASCII digits
		"x", " ", "é0", // odd, and of other signs
	} {
		checkNone(t, s)
	}
	whole := strings.Repeat("0123456789abcdef", 8)
	for i := range len(whole) {
		checkNone(t, whole[:i]+"A"+whole[i+1:])
		checkNone(t, whole[:i]+"x"+whole[i+1:])
		checkNone(t, whole[:i]+whole[i+1:])
	}
}

// TestHexHandedIn: bytes are neither changed nor shared.
func TestHexHandedIn(t *testing.T) {
	b := []byte{1, 2, 3, 4}
	s := Hex(b[:2])
	if !bytes.Equal(b, []byte{1, 2, 3, 4}) {
		t.Errorf("what was handed in is %x", b)
	}
	b[0] = 9
	one, _ := Parse(s)
	other, _ := Parse(s)
	one[0] = 7
	if s != "0102" || other[0] != 1 {
		t.Error("what was told is shared")
	}
}
