package entry

import (
	"crypto/ed25519"
	"testing"

	"dioptre/api"
	"dioptre/sample"
	"dioptre/sign"
	"dioptre/trial"
)

// checkSign: Sign tells the entry with the seed's key and signature, as the library tells these, and that is signed.
func checkSign(t *testing.T, name string, seed api.Seed, e api.Entry) api.Entry {
	t.Helper()
	got, err := Sign(seed, e)
	if want := wantSign(seed, e); err != nil || !equal(got, want) {
		t.Errorf("%s: Sign: %v %v, not %v", name, got, err, want)
	}
	if !Right(got) || !Signed(got) {
		t.Errorf("%s: what is signed isn't: right %v, signed %v", name, Right(got), Signed(got))
	}
	return got
}

// TestSign: P17.3, P17.5: entries of each kind, by several seeds.
func TestSign(t *testing.T) {
	for name, e := range rightEntries() {
		for _, seed := range []api.Seed{{}, {5}, {31: 255}} {
			checkSign(t, name, seed, e)
		}
	}
	for _, c := range entryBytes {
		checkSign(t, c.b, api.Seed{1}, c.e)
	}
}

// TestSignAgain: P17.3: which key and signature were there doesn't count; all else stays.
func TestSignAgain(t *testing.T) {
	e := writeOf(insert(steps("a"), 3, 2, num(1)), rising()[:4]...)
	first := checkSign(t, "first", api.Seed{1}, e)
	if checkSign(t, "again", api.Seed{1}, first); !equal(first, wantSign(api.Seed{1}, e)) {
		t.Error("signing again tells another one")
	}
	other := checkSign(t, "by another one", api.Seed{2}, first)
	if other.Key != sign.Public(api.Seed{2}) || other.Sig == first.Sig {
		t.Errorf("signed by another one: %v", other)
	}
	other.Key, other.Sig = e.Key, e.Sig
	if !equal(other, e) {
		t.Errorf("what was signed: %v, not %v", other, e)
	}
}

// TestSignAny: P17.3, P17.5: any entries and seeds: what is signed is signed, encoded and decoded; of others Encode's error.
func TestSignAny(t *testing.T) {
	r := chance()
	count := map[api.Errno]int{}
	for range 500 {
		e := someEntry(r)
		if r.IntN(2) == 0 {
			spoil(r, &e)
		}
		seed, want := api.Seed(some(r, 32)), wantError(e)
		count[want]++
		if want != api.OK {
			checkUnsigned(t, "any", seed, e, want)
			continue
		}
		e = checkSign(t, "any", seed, e)
		b, err := Encode(e)
		if back, err2 := Decode(b); err != nil || err2 != nil || !equal(back, e) || !Signed(back) {
			t.Errorf("%v: %x %v, %v %v", e, b, err, back, err2)
		}
	}
	if count[api.OK] < 100 || count[api.ErrArg] < 100 {
		t.Errorf("%v", count)
	}
}

// checkUnsigned: of an entry that isn't right Sign tells Encode's error, and nothing; it isn't signed.
func checkUnsigned(t *testing.T, name string, seed api.Seed, e api.Entry, code api.Errno) {
	t.Helper()
	got, err := Sign(seed, e)
	trial.Code(t, name+": Sign", err, code)
	_, encode := Encode(e)
	trial.Code(t, name+": Encode", encode, code)
	if !equal(got, api.Entry{}) || Signed(e) {
		t.Errorf("%s: %v, signed: %v", name, got, Signed(e))
	}
}

// TestSignWrong: P17.3: Encode's errors of entries that aren't right, the one named first.
func TestSignWrong(t *testing.T) {
	for name, e := range wrongEntries() {
		checkUnsigned(t, name, api.Seed{1}, e, api.ErrArg)
	}
	checkUnsigned(t, "a long operation", api.Seed{1}, writeOf(set(nil, sample.Large(5000))), api.ErrLong)
	checkUnsigned(t, "a long lens", api.Seed{1}, publishOf(longLens(5000)), api.ErrLong)
	checkUnsigned(t, "a long operation, parents that fall", api.Seed{1}, writeOf(set(nil, sample.Large(5000)), hash(2, 0), hash(1, 0)), api.ErrArg)
	for size := 4090; size < 4100; size++ {
		e := writeOf(set(nil, sample.Large(size-132)))
		if b := wantBytes(e); len(b) != size {
			t.Fatal("not so many bytes:", len(b), size)
		}
		if size <= 4096 {
			checkSign(t, "nearly too long", api.Seed{1}, e)
			continue
		}
		checkUnsigned(t, "nearly right", api.Seed{1}, e, api.ErrLong)
		checkUnsigned(t, "nearly right, and signed", api.Seed{1}, wantSign(api.Seed{1}, e), api.ErrLong)
	}
}

// TestSignedWrong: P17.3: an entry that isn't right isn't signed, though the signature is right for its key and its bytes.
func TestSignedWrong(t *testing.T) {
	seed := api.Seed{3}
	for name, e := range wrongEntries() {
		if wantBytes(e) == nil {
			continue
		}
		e = wantSign(seed, e)
		b := wantBytes(e)
		if !ed25519.Verify(e.Key[:], b[:len(b)-64], e.Sig[:]) {
			t.Fatal("the library's signature isn't right:", name)
		}
		if Signed(e) {
			t.Errorf("%s: it is signed", name)
		}
	}
}

// TestSignedBits: P17.3: if one bit of an entry's bytes is another one, no entry is told, or one that isn't signed.
func TestSignedBits(t *testing.T) {
	for name, e := range map[string]api.Entry{"Delete": writeOf(remove(nil, 3)), "Rename": publishOf(rename("a", "b"), hash(1, 2))} {
		b := wantBytes(wantSign(api.Seed{7}, e))
		told := 0
		for i := range 8 * len(b) {
			b[i/8] ^= 1 << (i % 8)
			if x, err := Decode(b); err == nil {
				told++
				if Signed(x) {
					t.Errorf("%s: the bit %d doesn't count", name, i)
				}
			}
			b[i/8] ^= 1 << (i % 8)
		}
		if x, err := Decode(b); err != nil || !Signed(x) || told < 8*(32+32+64) {
			t.Errorf("%s: %v %v, %d others are told", name, x, err, told)
		}
	}
}

// TestSignedOthers: P17.3: with a field of another entry that is signed, too, an entry isn't signed; nor with a key, or a signature, that is nobody's.
func TestSignedOthers(t *testing.T) {
	l := rising()
	e := checkSign(t, "it", api.Seed{1}, writeOf(move(nil, 2, 1), l[1], l[2]))
	same := checkSign(t, "by another one", api.Seed{2}, e)
	other := checkSign(t, "another one", api.Seed{1}, writeOf(insert(steps("b"), 2, 1, num(1)), l[2], l[3]))
	lens := checkSign(t, "a lens", api.Seed{1}, publishOf(wrap("a"), l[1], l[2]))
	for name, change := range map[string]func(x *api.Entry){
		"Version":            func(x *api.Entry) { x.Version = hash(1, 1) },
		"Parents":            func(x *api.Entry) { x.Parents = other.Parents },
		"a parent fewer":     func(x *api.Entry) { x.Parents = x.Parents[:1] },
		"no parents":         func(x *api.Entry) { x.Parents = nil },
		"Op":                 func(x *api.Entry) { x.Op = other.Op },
		"Op's After":         func(x *api.Entry) { x.Op.After = 0 },
		"a lens":             func(x *api.Entry) { x.Kind, x.Op, x.Lens = api.Publish, api.Op{}, lens.Lens },
		"Key":                func(x *api.Entry) { x.Key = same.Key },
		"Sig":                func(x *api.Entry) { x.Sig = same.Sig },
		"another one's Sig":  func(x *api.Entry) { x.Sig = other.Sig },
		"a lens's Sig":       func(x *api.Entry) { x.Sig = lens.Sig },
		"no Sig":             func(x *api.Entry) { x.Sig = api.Sig{} },
		"a key that is none": func(x *api.Entry) { x.Key = api.Key{2} },
	} {
		x := plain(e)
		change(&x)
		if !Right(x) || Signed(x) {
			t.Errorf("%s: right %v, signed %v", name, Right(x), Signed(x))
		}
	}
	if !Signed(e) || Signed(api.Entry{}) || Signed(writeOf(remove(nil, 3))) {
		t.Error("the entry itself, the zero one, one that nobody has signed")
	}
	// Lists without elements are as none.
	x := plain(e)
	x.Lens = emptyLens()
	if !Signed(x) {
		t.Error("a lens without elements")
	}
}

// TestSignOwn: P17.3: what is handed in is neither changed nor kept, and nothing is shared.
func TestSignOwn(t *testing.T) {
	for name, e := range map[string]api.Entry{
		"Insert":  writeOf(insert(steps("l", 2), 3, 2, list([]uint64{1, 2}, nums(3), sample.Record([]string{"a"}, word("w")))), rising()[:3]...),
		"Add":     publishOf(in("a", sample.Add("b", sample.RecordOf([]string{"x"}, of(api.Enum, "w")), sample.Record([]string{"x"}, word("w")))), rising()[:2]...),
		"Convert": publishOf(sample.Convert("a", of(api.Int), num(1), text("b"), api.Pair{X: text("c"), Y: num(2)})),
	} {
		e = roomy(e)
		kept := whole(e)
		got := checkSign(t, name, api.Seed{4}, e)
		want := plain(got)
		scramble(got)
		if !equal(whole(e), kept) {
			t.Errorf("%s: the answer shares with what is handed in: %v", name, e)
		}
		got, _ = Sign(api.Seed{4}, e)
		again, _ := Sign(api.Seed{4}, e)
		scramble(again)
		scramble(e)
		if !equal(got, want) {
			t.Errorf("%s: what is handed in is kept, or two answers share: %v, not %v", name, got, want)
		}
	}
}
