package scan

import (
	"math"
	"slices"
	"strings"
	"testing"

	"dioptre/api"
	"dioptre/fault"
	"dioptre/pack"
)

// check: what was read is that; the reader has that error, in the place where it stands.
func check[T comparable](t *testing.T, name, b string, read func(r *pack.Reader) T, want T, code api.Errno, place int) {
	t.Helper()
	r := pack.NewReader([]byte("\x09" + b))
	r.Byte()
	if got := read(r); got != want {
		t.Errorf("%s: %v, not %v", name, got, want)
	}
	if fault.Code(r.Err()) != code || r.At() != place || code != api.OK && !slices.Equal(fault.Places(r.Err()), []int{place}) {
		t.Errorf("%s: %v, at %d, not %d at %d", name, r.Err(), r.At(), code, place)
	}
	if r.Err() == nil {
		return
	}
	var none T
	if got := read(r); got != none || fault.Code(r.Err()) != code || r.At() != place {
		t.Errorf("%s: a broken reader tells %v, %v", name, got, r.Err())
	}
}

// TestCount: ErrLong of more than most, behind it; package pack's own errors first.
func TestCount(t *testing.T) {
	eight := func(r *pack.Reader) int { return Count(r, 8) }
	check(t, "0", "\x00\x09", eight, 0, api.OK, 2)
	check(t, "8", "\x08\x09", eight, 8, api.OK, 2)
	check(t, "9", "\x09\x09", eight, 0, api.ErrLong, 2)
	check(t, "300", "\xac\x02", eight, 0, api.ErrLong, 3)
	check(t, "the greatest", "\xff\xff\xff\xff\xff\xff\xff\xff\xff\x01", eight, 0, api.ErrLong, 11)
	check(t, "none", "", eight, 0, api.ErrForm, 1)
	check(t, "not short", "\x89\x00", eight, 0, api.ErrForm, 1)
	check(t, "above", "\xff\xff\xff\xff\xff\xff\xff\xff\xff\x02", eight, 0, api.ErrForm, 1)
}

// TestKind: ErrKind of what is none of them, behind it; package pack's own error first.
func TestKind(t *testing.T) {
	four := func(r *pack.Reader) int { return Kind(r, 4) }
	check(t, "1", "\x01\x09", four, 1, api.OK, 2)
	check(t, "4", "\x04\x09", four, 4, api.OK, 2)
	check(t, "0", "\x00\x01", four, 0, api.ErrKind, 2)
	check(t, "5", "\x05\x01", four, 0, api.ErrKind, 2)
	check(t, "255", "\xff", four, 0, api.ErrKind, 2)
	check(t, "none", "", four, 0, api.ErrForm, 1)
}

// TestAsked: what the function that is handed on reads; its own errors first, ErrForm of what doesn't fit, behind it.
func TestAsked(t *testing.T) {
	yes := func(r *pack.Reader) bool { return Asked(r, (*pack.Reader).Bool, func(b bool) bool { return b }) }
	check(t, "true", "\x01\x09", yes, true, api.OK, 2)
	check(t, "false", "\x00\x09", yes, false, api.ErrForm, 2)
	check(t, "2", "\x02\x09", yes, false, api.ErrForm, 1)
	small := func(r *pack.Reader) int { return Asked(r, (*pack.Reader).Int, func(n int) bool { return n < 3 }) }
	check(t, "-2", "\x03\x09", small, -2, api.OK, 2)
	check(t, "3", "\x06\x09", small, 0, api.ErrForm, 2)
	check(t, "none, which would fit", "", small, 0, api.ErrForm, 1)
}

// TestWord: ErrForm of one that doesn't fit, behind it; package pack's own errors first.
func TestWord(t *testing.T) {
	short := func(r *pack.Reader) string {
		return Word(r, func(s string) bool { return len(s) == 2 || len(s) == 64 })
	}
	long := strings.Repeat("x", 64)
	check(t, "ab", "\x02ab\x09", short, "ab", api.OK, 4)
	check(t, "64", "\x40"+long, short, long, api.OK, 66)
	check(t, "abc", "\x03abc\x09", short, "", api.ErrForm, 5)
	check(t, "empty", "\x00\x09", short, "", api.ErrForm, 2)
	check(t, "65", "\x41x"+long, short, "", api.ErrLong, 1)
	check(t, "fewer left", "\x03ab", short, "", api.ErrForm, 1)
	check(t, "none", "", short, "", api.ErrForm, 1)
}

// TestNumber: ErrForm of one that doesn't fit, behind it; package pack's own errors first.
func TestNumber(t *testing.T) {
	odd := func(r *pack.Reader) uint64 { return Number(r, func(n uint64) bool { return n%2 == 1 }) }
	check(t, "5", "\x05\x09", odd, 5, api.OK, 2)
	check(t, "the greatest", "\xff\xff\xff\xff\xff\xff\xff\xff\xff\x01", odd, math.MaxUint64, api.OK, 11)
	check(t, "6", "\x06\x09", odd, 0, api.ErrForm, 2)
	check(t, "300", "\xac\x02\x09", odd, 0, api.ErrForm, 3)
	check(t, "0", "\x00", odd, 0, api.ErrForm, 2)
	check(t, "not short", "\x85\x00", odd, 0, api.ErrForm, 1)
	check(t, "none", "", odd, 0, api.ErrForm, 1)
}

// TestNil: no call panics.
func TestNil(t *testing.T) {
	if Kind(nil, 8) != 0 || Asked(nil, (*pack.Reader).Bool, func(bool) bool { return true }) || Count(nil, 8) != 0 || Word(nil, func(string) bool { return false }) != "" || Number(nil, func(uint64) bool { return true }) != 0 {
		t.Error("of a nil reader")
	}
}

// TestWhole: all bytes are read, at most MaxBytes; what is wrong with them in its place, too many without one.
func TestWhole(t *testing.T) {
	text := func(r *pack.Reader) string { return r.Text(5000) }
	sized := func(n int) string {
		return string([]byte{byte(n-2)&0x7f | 0x80, byte((n - 2) >> 7)}) + strings.Repeat("x", n-2)
	}
	for _, c := range []struct {
		name, b, want string
		code          api.Errno
		places        []int
	}{
		{"ab", "\x02ab", "ab", api.OK, nil},
		{"4096", sized(4096), sized(4096)[2:], api.OK, nil},
		{"4097", sized(4097), "", api.ErrLong, nil},
		{"4097, others left", "\x02ab" + strings.Repeat("x", 4094), "", api.ErrLong, nil},
		{"4096, others left", "\x02ab" + strings.Repeat("x", 4093), "", api.ErrForm, []int{3}},
		{"one left", "\x02ab\x00", "", api.ErrForm, []int{3}},
		{"fewer", "\x02a", "", api.ErrForm, []int{0}},
		{"none", "", "", api.ErrForm, []int{0}},
		{"what is wrong ahead of what is left", "\x80\x00\x00", "", api.ErrForm, []int{0}},
	} {
		got, e := Whole([]byte(c.b), text)
		if got != c.want || fault.Code(e) != c.code || !slices.Equal(fault.Places(e), c.places) {
			t.Errorf("%s: %q %v", c.name, got, e)
		}
	}
}
