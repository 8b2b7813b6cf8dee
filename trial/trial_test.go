package trial

import (
	"fmt"
	"maps"
	"math"
	"math/rand/v2"
	"slices"
	"strings"
	"testing"

	"dioptre/api"
	"dioptre/fault"
	"dioptre/pack"
)

// note is a test that notes what is told.
type note struct{ told []string }

func (n *note) Helper() {}

func (n *note) Errorf(format string, args ...any) {
	n.told = append(n.told, fmt.Sprintf(format, args...))
}

// toy is a thing: a name, and at most 500 numbers.
type toy struct {
	name string
	nums []uint64
}

func (x toy) right() bool { return Name(x.name) && len(x.nums) <= 500 }

// write writes a right toy.
func write(w *pack.Writer, x toy) {
	b, _ := encode(x)
	w.Raw(b...)
}

func encode(x toy) ([]byte, error) {
	if !x.right() {
		return nil, api.ErrArg
	}
	var w pack.Writer
	w.Text(x.name)
	w.Number(uint64(len(x.nums)))
	for _, n := range x.nums {
		w.Number(n)
	}
	if b := w.Out(); len(b) <= api.MaxBytes {
		return b, nil
	}
	return nil, api.ErrLong
}

func read(r *pack.Reader) toy {
	x := toy{name: r.Text(64)}
	if !Name(x.name) {
		r.Fail(api.ErrForm)
	}
	count := r.Number(math.MaxUint64)
	if count > 500 {
		r.Fail(api.ErrLong)
	}
	for range min(count, 500) {
		x.nums = append(x.nums, r.Number(math.MaxUint64))
	}
	if r.Err() != nil {
		return toy{}
	}
	return x
}

func decode(b []byte) (toy, error) {
	if len(b) > api.MaxBytes {
		return toy{}, api.ErrLong
	}
	r := pack.NewReader(b)
	x := read(r)
	if e := r.End(); e != nil {
		return toy{}, e
	}
	return x, nil
}

func model(m *Model) toy {
	x := toy{name: m.Name()}
	for range m.Count(500) {
		x.nums = append(x.nums, m.Number())
	}
	return x
}

func equal(x, y toy) bool { return x.name == y.name && slices.Equal(x.nums, y.nums) }

// toys is how toys are written and read.
func toys() Bytes[toy] {
	return Bytes[toy]{
		Encode: encode, Decode: decode, Read: read, Write: write, Equal: equal, Model: model,
		Roomy:    func(x toy) toy { return toy{x.name, append(slices.Clone(x.nums), 99)[:len(x.nums)]} },
		Whole:    func(x toy) toy { return toy{x.name, slices.Clone(x.nums[:cap(x.nums)])} },
		Scramble: func(x toy) { clear(x.nums[:cap(x.nums)]) },
	}
}

// some is a toy, someBytes its bytes.
func some() toy { return toy{"ab", []uint64{5, 300}} }

const someBytes = "\x02ab\x02\x05\xac\x02"

// long is a toy of so many numbers of ten bytes, longBytes are its own: 4096 of 409.
func long(n int) toy { return toy{"abc", slices.Repeat([]uint64{1 << 63}, n)} }

func longBytes(n int) []byte {
	return slices.Concat([]byte("\x03abc"), []byte{byte(n)&127 | 128, byte(n >> 7)}, slices.Repeat([]byte("\x80\x80\x80\x80\x80\x80\x80\x80\x80\x01"), n))
}

// uses are the checks, each as it is used.
var uses = map[string]func(t T, c Bytes[toy]){
	"Known":   func(t T, c Bytes[toy]) { c.Known(t, some(), someBytes) },
	"Encoded": func(t T, c Bytes[toy]) { c.Encoded(t, some(), []byte(someBytes)) },
	"Refused": func(t T, c Bytes[toy]) { c.Refused(t, "no name", toy{name: "A"}, api.ErrArg) },
	"Refused, long": func(t T, c Bytes[toy]) {
		c.Refused(t, "long", long(500), api.ErrLong)
	},
	"Decoded":        func(t T, c Bytes[toy]) { c.Decoded(t, []byte(someBytes)) },
	"Decoded, wrong": func(t T, c Bytes[toy]) { c.Decoded(t, []byte("\x01a\xf5\x03\x00")) },
	"Decoded, left":  func(t T, c Bytes[toy]) { c.Decoded(t, []byte(someBytes+"\x00")) },
	"Fails":          func(t T, c Bytes[toy]) { c.Fails(t, "501", "\x01a\xf5\x03", Wrong{api.ErrLong, 4}) },
	"own":            func(t T, c Bytes[toy]) { c.own(t, some(), someBytes) },
	"broken":         func(t T, c Bytes[toy]) { c.broken(t, someBytes) },
	"TooLong":        func(t T, c Bytes[toy]) { c.TooLong(t, append([]byte(someBytes), make([]byte, api.MaxBytes)...)) },
	"Sized, 4096":    func(t T, c Bytes[toy]) { c.Sized(t, long(409), longBytes(409)) },
	"Sized, 4106":    func(t T, c Bytes[toy]) { c.Sized(t, long(410), longBytes(410)) },
	"Several":        func(t T, c Bytes[toy]) { c.Several(t, some(), toy{name: "_"}, some()) },
	"All":            func(t T, c Bytes[toy]) { c.All(t, "\x01", "\x00\x01ab\xff", 4) },
	"Changed": func(t T, c Bytes[toy]) {
		r := rand.New(rand.NewPCG(1, 1))
		for range 200 {
			c.Changed(t, r.IntN, []byte(someBytes), r.IntN(len(someBytes)))
		}
	},
}

// faults are what may be wrong with a layer.
var faults = map[string]func(c *Bytes[toy]){
	"Encode tells an error": func(c *Bytes[toy]) {
		c.Encode = func(x toy) ([]byte, error) { return nil, api.ErrArg }
	},
	"Encode tells other bytes": func(c *Bytes[toy]) {
		c.Encode = func(x toy) ([]byte, error) {
			b, e := encode(x)
			return append(b, 0), e
		}
	},
	"Encode tells bytes beside an error": func(c *Bytes[toy]) {
		c.Encode = func(x toy) ([]byte, error) {
			if b, e := encode(x); e == nil {
				return b, e
			}
			return []byte{1}, api.ErrArg
		}
	},
	"Encode takes all": func(c *Bytes[toy]) {
		c.Encode = func(x toy) ([]byte, error) {
			b, _ := encode(x)
			return b, nil
		}
	},
	"Encode knows one error only": func(c *Bytes[toy]) {
		c.Encode = func(x toy) ([]byte, error) {
			if b, e := encode(x); e == nil {
				return b, nil
			}
			return nil, api.ErrArg
		}
	},
	"Encode's error has a place": func(c *Bytes[toy]) {
		c.Encode = func(x toy) ([]byte, error) {
			b, e := encode(x)
			return b, fault.Wrap(e, 0)
		}
	},
	"Encode keeps its bytes": func(c *Bytes[toy]) {
		kept := map[string][]byte{}
		c.Encode = func(x toy) ([]byte, error) {
			if b := kept[x.name]; b != nil {
				return b, nil
			}
			b, e := encode(x)
			kept[x.name] = b
			return b, e
		}
	},
	"Encode changes what is handed in": func(c *Bytes[toy]) {
		c.Encode = func(x toy) ([]byte, error) {
			b, e := encode(x)
			clear(x.nums)
			return b, e
		}
	},
	"Encode changes spare room": func(c *Bytes[toy]) {
		c.Encode = func(x toy) ([]byte, error) {
			_ = append(x.nums, 7)
			return encode(x)
		}
	},
	"Write writes nothing": func(c *Bytes[toy]) { c.Write = func(w *pack.Writer, x toy) {} },
	"Write writes beside an error": func(c *Bytes[toy]) {
		c.Write = func(w *pack.Writer, x toy) {
			w.Text(x.name)
			w.Number(uint64(len(x.nums)))
			for _, n := range x.nums {
				w.Number(n)
			}
		}
	},
	"Decode tells another thing": func(c *Bytes[toy]) {
		c.Decode = func(b []byte) (toy, error) {
			x, e := decode(b)
			slices.Reverse(x.nums)
			return x, e
		}
	},
	"Decode tells a thing beside an error": func(c *Bytes[toy]) {
		c.Decode = func(b []byte) (toy, error) {
			if x, e := decode(b); e == nil {
				return x, nil
			} else {
				return some(), e
			}
		}
	},
	"Decode tells another error": func(c *Bytes[toy]) {
		c.Decode = func(b []byte) (toy, error) {
			x, e := decode(b)
			if e != nil {
				e = fault.Wrap(api.ErrKind, fault.Place(e))
			}
			return x, e
		}
	},
	"Decode tells another place": func(c *Bytes[toy]) {
		c.Decode = func(b []byte) (toy, error) {
			x, e := decode(b)
			if e != nil {
				e = fault.Wrap(fault.Code(e), fault.Place(e)+1)
			}
			return x, e
		}
	},
	"Decode tells two places": func(c *Bytes[toy]) {
		c.Decode = func(b []byte) (toy, error) {
			x, e := decode(b)
			if e != nil {
				e = fault.Wrap(e, fault.Place(e))
			}
			return x, e
		}
	},
	"Decode tells no place": func(c *Bytes[toy]) {
		c.Decode = func(b []byte) (toy, error) {
			x, e := decode(b)
			if e != nil {
				e = fault.Code(e)
			}
			return x, e
		}
	},
	"Decode passes over what is left": func(c *Bytes[toy]) {
		c.Decode = func(b []byte) (toy, error) {
			r := pack.NewReader(b)
			x := read(r)
			if len(b) > api.MaxBytes {
				return toy{}, api.ErrLong
			}
			return x, r.Err()
		}
	},
	"Decode has no limit": func(c *Bytes[toy]) {
		c.Decode = func(b []byte) (toy, error) {
			r := pack.NewReader(b)
			x := read(r)
			if e := r.End(); e != nil {
				return toy{}, e
			}
			return x, nil
		}
	},
	"Decode keeps what it told": func(c *Bytes[toy]) {
		kept := map[string]toy{}
		c.Decode = func(b []byte) (toy, error) {
			if x, ok := kept[string(b)]; ok {
				return x, nil
			}
			x, e := decode(b)
			if e == nil {
				kept[string(b)] = x
			}
			return x, e
		}
	},
	"Decode changes its bytes": func(c *Bytes[toy]) {
		c.Decode = func(b []byte) (toy, error) {
			x, e := decode(b)
			clear(b)
			return x, e
		}
	},
	"Decode changes spare room": func(c *Bytes[toy]) {
		c.Decode = func(b []byte) (toy, error) {
			_ = append(b, 0)
			return decode(b)
		}
	},
	"Read tells another thing": func(c *Bytes[toy]) {
		c.Read = func(r *pack.Reader) toy {
			x := read(r)
			slices.Reverse(x.nums)
			return x
		}
	},
	"Read goes further": func(c *Bytes[toy]) {
		c.Read = func(r *pack.Reader) toy {
			x := read(r)
			r.Byte()
			return x
		}
	},
	"Read breaks its reader elsewhere": func(c *Bytes[toy]) {
		c.Read = func(r *pack.Reader) toy {
			at := r.At()
			x := read(r)
			if r.Err() != nil && at == 2 {
				*r = *pack.NewReader([]byte{1})
				r.Byte()
				r.Fail(api.ErrForm)
			}
			return x
		}
	},
	"Read tells a thing of a broken reader": func(c *Bytes[toy]) {
		c.Read = func(r *pack.Reader) toy {
			if r.Err() != nil {
				return some()
			}
			return read(r)
		}
	},
	"Read tells a thing of a nil reader": func(c *Bytes[toy]) {
		c.Read = func(r *pack.Reader) toy {
			if r == nil {
				return some()
			}
			return read(r)
		}
	},
	"Read tells a thing of nothing": func(c *Bytes[toy]) {
		c.Read = func(r *pack.Reader) toy {
			if r != nil && r.Err() == nil && r.End() == nil && r.At() == 0 {
				return some()
			}
			return read(r)
		}
	},
	"the model knows more": func(c *Bytes[toy]) {
		c.Model = func(m *Model) toy {
			x := toy{name: m.Name()}
			for range m.Count(2) {
				x.nums = append(x.nums, m.Number())
			}
			m.Ask(len(x.nums) < 2, api.ErrKind, m.At)
			return x
		}
	},
}

// caught are the checks that tell of each fault.
var caught = map[string]string{
	"Decode changes its bytes":              "All; Changed; Decoded; Decoded, left; Decoded, wrong; Fails; Known; Sized, 4096; Sized, 4106; TooLong; own",
	"Decode changes spare room":             "Known; own",
	"Decode has no limit":                   "Sized, 4106; TooLong",
	"Decode keeps what it told":             "Known; own",
	"Decode passes over what is left":       "All; Changed; Decoded, left; Known",
	"Decode tells a thing beside an error":  "All; Changed; Decoded, left; Decoded, wrong; Fails; Known; Sized, 4106; TooLong",
	"Decode tells another error":            "All; Changed; Decoded, left; Decoded, wrong; Fails; Known; Sized, 4106; TooLong",
	"Decode tells another place":            "All; Changed; Decoded, left; Decoded, wrong; Fails; Known; Sized, 4106; TooLong",
	"Decode tells another thing":            "Changed; Decoded; Known; own",
	"Decode tells no place":                 "All; Changed; Decoded, left; Decoded, wrong; Fails; Known",
	"Decode tells two places":               "All; Changed; Decoded, left; Decoded, wrong; Fails; Known; Sized, 4106; TooLong",
	"Encode changes spare room":             "Encoded; Known; Sized, 4096",
	"Encode changes what is handed in":      "All; Changed; Decoded; Encoded; Known; Refused, long; Several; Sized, 4096; Sized, 4106",
	"Encode keeps its bytes":                "All; Changed; Encoded; Known; Sized, 4096",
	"Encode knows one error only":           "Refused, long; Sized, 4106",
	"Encode takes all":                      "Refused; Refused, long; Sized, 4106",
	"Encode tells an error":                 "All; Changed; Decoded; Encoded; Known; Refused, long; Several; Sized, 4096; Sized, 4106",
	"Encode tells bytes beside an error":    "Refused; Refused, long; Sized, 4106",
	"Encode tells other bytes":              "All; Changed; Decoded; Encoded; Known; Refused; Refused, long; Several; Sized, 4096; Sized, 4106",
	"Encode's error has a place":            "Refused; Refused, long; Sized, 4106",
	"Read breaks its reader elsewhere":      "All; Changed; Decoded, wrong; Fails; Known",
	"Read goes further":                     "All; Changed; Decoded; Decoded, left; Known; Several; Sized, 4096; Sized, 4106",
	"Read tells a thing of a broken reader": "All; Changed; Decoded, wrong; Fails; Known; broken",
	"Read tells a thing of a nil reader":    "Known; broken",
	"Read tells a thing of nothing":         "Known; broken",
	"Read tells another thing":              "Changed; Decoded; Decoded, left; Known; Several",
	"Write writes beside an error":          "Refused; Refused, long; Sized, 4106",
	"Write writes nothing":                  "Encoded; Known; Sized, 4096",
	"the model knows more":                  "All; Changed; Decoded; Decoded, left; Known; Sized, 4096",
}

// TestChecks: nothing is told of a layer that is right; of each that isn't just these checks tell something.
func TestChecks(t *testing.T) {
	var n note
	for _, use := range uses {
		use(&n, toys())
		c := toys()
		c.Write = nil
		use(&n, c)
	}
	if len(n.told) > 0 {
		t.Error("told of a right layer:", n.told)
	}
	for name, spoil := range faults {
		if got := toldBy(uses, spoil); got != caught[name] {
			t.Errorf("%s: told by %s, not by %s", name, got, caught[name])
		}
	}
}

// toldBy are the checks that tell something of a layer that isn't right.
func toldBy(uses map[string]func(t T, c Bytes[toy]), spoil func(c *Bytes[toy])) string {
	var l []string
	for check, use := range uses {
		var n note
		c := toys()
		spoil(&c)
		use(&n, c)
		if len(n.told) > 0 {
			l = append(l, check)
		}
	}
	slices.Sort(l)
	return strings.Join(l, "; ")
}

// TestWithoutRead: of a layer that has no Read the checks tell the same, but for what Read alone does.
func TestWithoutRead(t *testing.T) {
	some := maps.Clone(uses)
	delete(some, "Several")
	if got := toldBy(some, func(c *Bytes[toy]) { c.Read = nil }); got != "" {
		t.Error("told of a right layer, by", got)
	}
	for name, spoil := range faults {
		want := strings.ReplaceAll(caught[name], "; Several", "")
		if strings.HasPrefix(name, "Read") {
			want = ""
		}
		got := toldBy(some, func(c *Bytes[toy]) {
			spoil(c)
			c.Read = nil
		})
		if got != want {
			t.Errorf("%s: told by %s, not by %s", name, got, want)
		}
	}
}

// TestCount: All takes all bytes up to so many, Changed each that is changed; they tell which are right.
func TestCount(t *testing.T) {
	var n note
	seen := map[string]int{}
	c := toys()
	c.Model = func(m *Model) toy {
		seen[string(m.b)]++
		return model(m)
	}
	if right := c.All(&n, "\x01", "\x00\x01a", 3); right != 4 || len(seen) != 1+3+9+27 || seen["\x01a\x01\x00"] != 1 || seen["\x01"] != 1 {
		t.Error(right, len(seen), n.told)
	}
	clear(seen)
	count := map[bool]int{}
	r := rand.New(rand.NewPCG(1, 1))
	b := []byte(someBytes)
	for range 2000 {
		count[c.Changed(&n, r.IntN, b, r.IntN(len(b)))]++
	}
	if count[true] < 100 || count[false] < 500 || len(seen) < 100 || string(b) != someBytes || len(n.told) > 0 {
		t.Error(count, len(seen), b, n.told)
	}
}

// TestErrors: an error is held against its number and its one place, or none.
func TestErrors(t *testing.T) {
	for _, c := range []struct {
		e    error
		w    Wrong
		want bool
	}{
		{nil, Wrong{}, true}, {nil, Wrong{api.OK, -1}, true}, {nil, Wrong{api.ErrArg, -1}, false}, {api.ErrArg, Wrong{}, false}, {api.ErrArg, Wrong{api.ErrArg, -1}, true},
		{api.ErrArg, Wrong{api.ErrForm, -1}, false}, {api.ErrArg, Wrong{api.ErrArg, 0}, false}, {fault.Wrap(api.ErrArg, 0), Wrong{api.ErrArg, 0}, true},
		{fault.Wrap(api.ErrArg, 0), Wrong{api.ErrArg, -1}, false}, {fault.Wrap(api.ErrArg, 1), Wrong{api.ErrArg, 0}, false}, {fault.Wrap(api.ErrArg, 1), Wrong{api.ErrForm, 1}, false},
		{fault.Wrap(fault.Wrap(api.ErrArg, 1), 1), Wrong{api.ErrArg, 1}, false}, {fault.Wrap(api.ErrArg, 1), Wrong{}, false},
	} {
		var n note
		Error(&n, "it", c.e, c.w)
		if c.w.Place < 0 {
			Code(&n, "it", c.e, c.w.Code)
		}
		if (len(n.told) == 0) != c.want {
			t.Errorf("%v and %v: %v", c.e, c.w, n.told)
		}
	}
}

// TestModel: the model reads fields as package pack does, and is ended where that is broken.
func TestModel(t *testing.T) {
	check := func(b string, read func(r *pack.Reader) any, model func(m *Model) any) {
		t.Helper()
		r := pack.NewReader([]byte("\x07" + b))
		r.Byte()
		want := read(r)
		got, size, w := Of([]byte("\x07"+b), func(m *Model) any {
			m.Byte()
			return model(m)
		})
		if e := r.Err(); e != nil {
			if w.Code != fault.Code(e) || w.Place != fault.Place(e) || got != nil {
				t.Errorf("%x: %v %v, not %v", b, got, w, e)
			}
		} else if w != (Wrong{}) || got != want || size != r.At() {
			t.Errorf("%x: %v %v, not %v", b, got, w, want)
		}
	}
	r := rand.New(rand.NewPCG(1, 1))
	all := []string{"", "\xff\xff\xff\xff\xff\xff\xff\xff\xff\x01", "\xff\xff\xff\xff\xff\xff\xff\xff\xff\x02", "\xff\xff\xff\xff\xff\xff\xff\xff\xff\xff\x01", "\x80\x00", "\x80\x80\x00", "\x40" + strings.Repeat("a", 64), "\x41" + strings.Repeat("a", 65)}
	for range 20000 {
		b := make([]byte, r.IntN(13))
		for i := range b {
			b[i] = []byte{0, 1, 2, 3, 4, 5, 0x7f, 0x80, 0x81, 0xff, 'a'}[r.IntN(11)]
		}
		all = append(all, string(b))
	}
	for _, b := range all {
		check(b, func(r *pack.Reader) any { return r.Byte() }, func(m *Model) any { return m.Byte() })
		check(b, func(r *pack.Reader) any { return r.Number(math.MaxUint64) }, func(m *Model) any { return m.Number() })
		check(b, func(r *pack.Reader) any { return r.Text(64) }, func(m *Model) any { return m.Text() })
		check(b, func(r *pack.Reader) any { return string(r.Raw(4)) }, func(m *Model) any { return string(m.Raw(4)) })
		check(b, func(r *pack.Reader) any { return r.Text(64) }, func(m *Model) any { return Below(m, func(r *pack.Reader) string { return r.Text(64) }) })
	}
}

// TestAsked: what is asked of kinds, counts and names, behind them.
func TestAsked(t *testing.T) {
	kind := func(m *Model) any { return m.Kind(3) }
	count := func(m *Model) any { return m.Count(3) }
	name := func(m *Model) any { return m.Name() }
	for _, c := range []struct {
		b     string
		model func(m *Model) any
		want  any
		w     Wrong
	}{
		{"\x01", kind, 1, Wrong{}}, {"\x03", kind, 3, Wrong{}}, {"\x00", kind, nil, Wrong{api.ErrKind, 1}}, {"\x04", kind, nil, Wrong{api.ErrKind, 1}}, {"", kind, nil, Wrong{api.ErrForm, 0}},
		{"\x00", count, 0, Wrong{}}, {"\x03", count, 3, Wrong{}}, {"\x04", count, nil, Wrong{api.ErrLong, 1}}, {"\xac\x02", count, nil, Wrong{api.ErrLong, 2}}, {"\x80", count, nil, Wrong{api.ErrForm, 0}},
		{"\x01a", name, "a", Wrong{}}, {"\x0cabcdefghi_09", name, "abcdefghi_09", Wrong{}}, {"\x00", name, nil, Wrong{api.ErrForm, 1}}, {"\x01A", name, nil, Wrong{api.ErrForm, 2}},
		{"\x0dabcdefghijklm", name, nil, Wrong{api.ErrForm, 14}}, {"\x02a`", name, nil, Wrong{api.ErrForm, 3}}, {"\x02a{", name, nil, Wrong{api.ErrForm, 3}}, {"\x02a/", name, nil, Wrong{api.ErrForm, 3}}, {"\x02a:", name, nil, Wrong{api.ErrForm, 3}}, {"\x02az", name, "az", Wrong{}},
	} {
		if got, _, w := Of([]byte(c.b), c.model); got != c.want || w != c.w {
			t.Errorf("%x: %v %v, not %v %v", c.b, got, w, c.want, c.w)
		}
	}
}
