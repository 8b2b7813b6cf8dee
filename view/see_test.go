package view

import (
	"testing"

	"dioptre/api"
	"dioptre/sample"
)

// row is a lens on the sheet, and what the root and the new version see, step by step: the root sees the start as the version comes; then something is written there, then at the root.
type row struct {
	name, start, made string
	l                 api.Lens
	there             api.Op
	rootSees, itSees  string
	here              api.Op
	rootThen, itThen  string
}

// at is a Set of a value, told as a text, at a path.
func at(value string, path ...any) api.Op { return set(steps(path...), doc(value)) }

// rows are of each kind of lens. The seed of the Publish is 2, those of the Writes 3 and 4.
func rows() []row {
	const start = "{a=5,l=[8:80,9:90],m=[6:{a=1},7:{a=2}],r={n=true}}"
	words := sample.Convert("a", of(api.Text), doc(`"many"`), num(7), api.Pair{X: num(5), Y: doc(`"five"`)}, api.Pair{X: num(6), Y: doc(`"six"`)})
	return []row{
		{"Rename", start, "{b=5,l=[8:80,9:90],m=[6:{a=1},7:{a=2}],r={n=true}}", rename("a", "b"),
			at("6", "b"), "{a=6,l=[8:80,9:90],m=[6:{a=1},7:{a=2}],r={n=true}}", "{b=6,l=[8:80,9:90],m=[6:{a=1},7:{a=2}],r={n=true}}",
			at("[]", "l"), "{a=6,l=[],m=[6:{a=1},7:{a=2}],r={n=true}}", "{b=6,l=[],m=[6:{a=1},7:{a=2}],r={n=true}}"},
		{"Add", "{a=5,l=[],m=[],r={n=true}}", "{a=5,l=[],m=[],r={n=true},z=3}", add("z", of(api.Int), num(3)),
			at("4", "z"), "{a=5,l=[],m=[],r={n=true}}", "{a=5,l=[],m=[],r={n=true},z=4}",
			at("6", "a"), "{a=6,l=[],m=[],r={n=true}}", "{a=6,l=[],m=[],r={n=true},z=4}"},
		{"Remove", start, "{a=5,m=[6:{a=1},7:{a=2}],r={n=true}}", sample.Remove("l", listOf(of(api.Int)), doc("[1:1]")),
			at("[]", "m"), "{a=5,l=[8:80,9:90],m=[],r={n=true}}", "{a=5,m=[],r={n=true}}",
			at("[]", "l"), "{a=5,l=[],m=[],r={n=true}}", "{a=5,m=[],r={n=true}}"},
		{"Hoist", "{a=5,l=[],m=[],r={n=true}}", "{a=5,l=[],m=[],n=true,r={}}", sample.Hoist("r", "n"),
			at("false", "n"), "{a=5,l=[],m=[],r={n=false}}", "{a=5,l=[],m=[],n=false,r={}}",
			at("{n=true}", "r"), "{a=5,l=[],m=[],r={n=true}}", "{a=5,l=[],m=[],n=true,r={}}"},
		{"Plunge", "{a=5,l=[],m=[],r={n=true}}", "{l=[],m=[],r={a=5,n=true}}", sample.Plunge("r", "a"),
			at("{a=6,n=false}", "r"), "{a=6,l=[],m=[],r={n=false}}", "{l=[],m=[],r={a=6,n=false}}",
			at("7", "a"), "{a=7,l=[],m=[],r={n=false}}", "{l=[],m=[],r={a=7,n=false}}"},
		{"Wrap", "{a=5,l=[],m=[],r={n=true}}", "{a=[2:5],l=[],m=[],r={n=true}}", wrap("a"),
			remove(steps("a"), 2), "{a=0,l=[],m=[],r={n=true}}", "{a=[],l=[],m=[],r={n=true}}",
			at("6", "a"), "{a=6,l=[],m=[],r={n=true}}", "{a=[4:6],l=[],m=[],r={n=true}}"},
		{"Wrap, of what is there in the list", "{a=5,l=[],m=[],r={n=true}}", "{a=[2:5],l=[],m=[],r={n=true}}", wrap("a"),
			insert(steps("a"), 9, 0, num(7)), "{a=7,l=[],m=[],r={n=true}}", "{a=[9:7,2:5],l=[],m=[],r={n=true}}",
			at("6", "a"), "{a=6,l=[],m=[],r={n=true}}", "{a=[9:6,2:5],l=[],m=[],r={n=true}}"},
		{"Wrap, of a default", "{a=0,l=[],m=[],r={n=true}}", "{a=[],l=[],m=[],r={n=true}}", wrap("a"),
			insert(steps("a"), 9, 0, num(0)), "{a=0,l=[],m=[],r={n=true}}", "{a=[9:0],l=[],m=[],r={n=true}}",
			at("6", "a"), "{a=6,l=[],m=[],r={n=true}}", "{a=[9:6],l=[],m=[],r={n=true}}"},
		{"Head", "{a=5,l=[8:80,9:90],m=[],r={n=true}}", "{a=5,l=80,m=[],r={n=true}}", sample.Head("l"),
			at("7", "l"), "{a=5,l=[8:7,9:90],m=[],r={n=true}}", "{a=5,l=7,m=[],r={n=true}}",
			move(steps("l"), 8, 9), "{a=5,l=[9:90,8:7],m=[],r={n=true}}", "{a=5,l=90,m=[],r={n=true}}"},
		{"Head, of an empty list", "{a=5,l=[],m=[],r={n=true}}", "{a=5,l=0,m=[],r={n=true}}", sample.Head("l"),
			at("7", "l"), "{a=5,l=[3:7],m=[],r={n=true}}", "{a=5,l=7,m=[],r={n=true}}",
			at("[]", "l"), "{a=5,l=[],m=[],r={n=true}}", "{a=5,l=0,m=[],r={n=true}}"},
		{"Convert", "{a=5,l=[],m=[],r={n=true}}", `{a="five",l=[],m=[],r={n=true}}`, words,
			at(`"six"`, "a"), "{a=6,l=[],m=[],r={n=true}}", `{a="six",l=[],m=[],r={n=true}}`,
			at("9", "a"), "{a=9,l=[],m=[],r={n=true}}", `{a="many",l=[],m=[],r={n=true}}`},
		{"Convert, of what stands for the rest", "{a=9,l=[],m=[],r={n=true}}", `{a="many",l=[],m=[],r={n=true}}`, words,
			at("[]", "l"), "{a=9,l=[],m=[],r={n=true}}", `{a="many",l=[],m=[],r={n=true}}`,
			at("5", "a"), "{a=5,l=[],m=[],r={n=true}}", `{a="five",l=[],m=[],r={n=true}}`},
		{"In", "{a=5,l=[],m=[],r={n=true}}", "{a=5,l=[],m=[],r={n=true,o=4}}", sample.In("r", add("o", of(api.Int), num(4))),
			at("{n=false,o=6}", "r"), "{a=5,l=[],m=[],r={n=false}}", "{a=5,l=[],m=[],r={n=false,o=6}}",
			at("{n=true}", "r"), "{a=5,l=[],m=[],r={n=true}}", "{a=5,l=[],m=[],r={n=true,o=6}}"},
		{"Map", "{a=5,l=[],m=[6:{a=1},7:{a=2}],r={n=true}}", "{a=5,l=[],m=[6:{a=[2:1]},7:{a=[2:2]}],r={n=true}}", sample.Map("m", wrap("a")),
			insert(steps("m", 7, "a"), 9, 0, num(8)), "{a=5,l=[],m=[6:{a=1},7:{a=8}],r={n=true}}", "{a=5,l=[],m=[6:{a=[2:1]},7:{a=[9:8,2:2]}],r={n=true}}",
			insert(steps("m"), 3, 6, doc("{a=4}")), "{a=5,l=[],m=[6:{a=1},3:{a=4},7:{a=8}],r={n=true}}", "{a=5,l=[],m=[6:{a=[2:1]},3:{a=[4:4]},7:{a=[9:8,2:2]}],r={n=true}}"},
	}
}

// TestKinds: what a version made by each kind of lens sees as it comes, and what the two see of what is written at the other one.
func TestKinds(t *testing.T) {
	for _, c := range rows() {
		for _, every := range []int{1, 2, 64} {
			v, m := viewsOf(t, sheet(), every)
			further(t, v, m, 1, setTo(m.root, c.start), publish(m.root, c.l))
			sees(t, c.name+", the start", v, m.root, c.start)
			sees(t, c.name+", as it comes", v, named(2), c.made)
			further(t, v, m, 3, write(named(2), c.there))
			sees(t, c.name+", a write there", v, m.root, c.rootSees)
			sees(t, c.name+", a write there", v, named(2), c.itSees)
			further(t, v, m, 4, write(m.root, c.here))
			sees(t, c.name+", a write at the root", v, m.root, c.rootThen)
			sees(t, c.name+", a write at the root", v, named(2), c.itThen)
			checkAll(t, c.name, v, m, named(1), named(3))
		}
	}
}

// TestExample: the chapter's example.
func TestExample(t *testing.T) {
	v, m := viewsOf(t, one(), 1)
	further(t, v, m, 1, publish(m.root, rename("a", "b")))
	sees(t, "the example", v, named(1), "{b=0}")
}

// family are views of versions in two branches: of the root 1 by b instead of a, of this 2 by a list, of that 3 by a field beside; of the root 4 by a list, of this 5 by a name.
func family(t *testing.T, every int) (*Views, *model) {
	t.Helper()
	v, m := viewsOf(t, one(), every)
	further(t, v, m, 1, publish(m.root, rename("a", "b")), publish(named(1), wrap("b")), publish(named(2), add("c", of(api.Int), num(3))), publish(m.root, wrap("a")), publish(named(4), rename("a", "z")))
	return v, m
}

// seesAll: what the root and the versions of the family see, one behind the other.
func seesAll(t *testing.T, name string, v *Views, m *model, want ...string) {
	t.Helper()
	for i, s := range want {
		h := named(byte(i))
		if i == 0 {
			h = m.root
		}
		sees(t, name, v, h, s)
	}
	checkAll(t, name, v, m)
}

// TestFar: a write goes up, and down, to all versions, by all that lie between.
func TestFar(t *testing.T) {
	v, m := family(t, 3)
	seesAll(t, "as they come", v, m, "{a=0}", "{b=0}", "{b=[]}", "{b=[],c=3}", "{a=[]}", "{z=[]}")
	further(t, v, m, 20, setTo(m.root, "5", "a"))
	seesAll(t, "at the root", v, m, "{a=5}", "{b=5}", "{b=[20:5]}", "{b=[20:5],c=3}", "{a=[20:5]}", "{z=[20:5]}")
	further(t, v, m, 21, write(named(3), insert(steps("b"), 2, 20, num(6))), write(named(3), at("9", "c")))
	seesAll(t, "what the root doesn't see", v, m, "{a=5}", "{b=5}", "{b=[20:5,2:6]}", "{b=[20:5,2:6],c=9}", "{a=[20:5]}", "{z=[20:5]}")
	further(t, v, m, 23, write(named(2), remove(steps("b"), 20)))
	seesAll(t, "in the midst", v, m, "{a=6}", "{b=6}", "{b=[2:6]}", "{b=[2:6],c=9}", "{a=[20:6]}", "{z=[20:6]}")
	further(t, v, m, 24, setTo(named(5), "[1:7,3:8]", "z"))
	seesAll(t, "in the other branch", v, m, "{a=7}", "{b=7}", "{b=[2:7]}", "{b=[2:7],c=9}", "{a=[1:7,3:8]}", "{z=[1:7,3:8]}")
	further(t, v, m, 25, setTo(named(4), "[]", "a"))
	seesAll(t, "nothing", v, m, "{a=0}", "{b=0}", "{b=[2:0]}", "{b=[2:0],c=9}", "{a=[]}", "{z=[]}")
	further(t, v, m, 26, publish(named(5), sample.Head("z")), setTo(named(26), "4", "z"))
	seesAll(t, "a version more", v, m, "{a=4}", "{b=4}", "{b=[2:4]}", "{b=[2:4],c=9}", "{a=[27:4]}", "{z=[27:4]}")
	sees(t, "a version more", v, named(26), "{z=4}")
}

// TestSeeds: the number of a new element is the first 8 bytes of the entry's name, 1 if these are 0; the bytes behind them don't matter.
func TestSeeds(t *testing.T) {
	for _, c := range []struct {
		name api.Hash
		want string
	}{
		{api.Hash{}, "1"}, {api.Hash{8: 5, 31: 5}, "1"}, {named(1), "1"}, {api.Hash{7: 2, 8: 5}, "2"}, {api.Hash{6: 1}, "256"}, {api.Hash{0: 128}, "9223372036854775808"},
		{api.Hash{255, 255, 255, 255, 255, 255, 255, 255, 255}, "18446744073709551615"}, {api.Hash{1, 2, 3, 4, 5, 6, 7, 8}, "72623859790382856"},
	} {
		v, m := viewsOf(t, one(), 2)
		further(t, v, m, 40, publish(m.root, wrap("a")), publish(named(40), sample.Head("a")))
		comes(t, v, m, 2, c.name, setTo(m.root, "5", "a"))
		sees(t, "down", v, named(40), "{a=["+c.want+":5]}")
		further(t, v, m, 42, setTo(m.root, "0", "a"), setTo(named(40), "[]", "a"))
		comes(t, v, m, 5, c.name, setTo(named(41), "6", "a"))
		sees(t, "up", v, named(40), "{a=["+c.want+":6]}")
		comes(t, v, m, 6, c.name, publish(named(41), wrap("a")))
		sees(t, "a version", v, c.name, "{a=["+c.want+":6]}")
		checkAll(t, "seeds", v, m, c.name)
	}
}

// TestNothing: entries that make nothing count as all others do, but no version sees anything of them.
func TestNothing(t *testing.T) {
	for name, e := range map[string]func(root api.Hash) api.Entry{
		"a Write at no version":                  func(api.Hash) api.Entry { return setTo(named(9), "{a=7}") },
		"a Write at its own name":                func(api.Hash) api.Entry { return setTo(named(10), "7", "a") },
		"a Write at the zero name":               func(api.Hash) api.Entry { return setTo(api.Hash{}, "7", "a") },
		"a Write of another type":                func(root api.Hash) api.Entry { return setTo(root, `"7"`, "a") },
		"a Write of another version's":           func(root api.Hash) api.Entry { return setTo(root, "7", "b") },
		"a Write of what the root's is":          func(api.Hash) api.Entry { return setTo(named(1), "7", "a") },
		"a Write into what is no list":           func(root api.Hash) api.Entry { return write(root, insert(steps("a"), 9, 0, num(7))) },
		"a Write out of no list":                 func(root api.Hash) api.Entry { return write(root, remove(nil, 9)) },
		"a Write at an element that isn't there": func(api.Hash) api.Entry { return setTo(named(2), "7", "b", 9) },
		"a Write of what stands there":           func(root api.Hash) api.Entry { return setTo(root, "5", "a") },
		"a Write of an element that isn't there": func(api.Hash) api.Entry { return write(named(2), remove(steps("b"), 9)) },
		"a Write of an element that is there":    func(api.Hash) api.Entry { return write(named(2), insert(steps("b"), 8, 0, num(7))) },
		"a Publish of no version":                func(api.Hash) api.Entry { return publish(named(9), rename("a", "z")) },
		"a Publish of its own name":              func(api.Hash) api.Entry { return publish(named(10), rename("a", "z")) },
		"a Publish of the zero name":             func(api.Hash) api.Entry { return publish(api.Hash{}, rename("a", "z")) },
		"a lens that doesn't go":                 func(root api.Hash) api.Entry { return publish(root, rename("b", "z")) },
		"a lens that goes on the root":           func(api.Hash) api.Entry { return publish(named(1), rename("a", "z")) },
	} {
		v, m := family(t, 2)
		further(t, v, m, 8, setTo(m.root, "5", "a"))
		comes(t, v, m, 6, named(10), e(m.root))
		seesAll(t, name, v, m, "{a=5}", "{b=5}", "{b=[8:5]}", "{b=[8:5],c=3}", "{a=[8:5]}", "{z=[8:5]}")
		if v.Len() != 7 || v.Saved() != 4 || len(v.Versions()) != 6 {
			t.Errorf("%s: Len %d, Saved %d, %d versions", name, v.Len(), v.Saved(), len(v.Versions()))
		}
	}
}

// TestTwice: of one name the first Publish counts, if that makes a version, of the root's name none; a Write of that name counts beside it.
func TestTwice(t *testing.T) {
	v, m := viewsOf(t, one(), 2)
	for _, e := range []api.Entry{publish(m.root, wrap("b")), publish(named(9), wrap("a")), publish(m.root, rename("a", "b")), publish(m.root, wrap("a")), setTo(m.root, "3", "a"), publish(named(1), wrap("b")), setTo(named(1), "4", "b")} {
		comes(t, v, m, v.Len(), named(1), e)
	}
	comes(t, v, m, 0, m.root, publish(m.root, wrap("a")))
	comes(t, v, m, v.Len(), m.root, publish(named(1), rename("b", "c")))
	sees(t, "twice", v, m.root, "{a=4}")
	sees(t, "twice", v, named(1), "{b=4}")
	if l := checkAll(t, "twice", v, m); len(l) != 2 || v.Len() != 9 {
		t.Error(l)
	}
	// What stands ahead of the first one is it.
	comes(t, v, m, 2, named(1), publish(m.root, wrap("a")))
	sees(t, "another first one", v, m.root, "{a=3}")
	sees(t, "another first one", v, named(1), "{a=[1:3]}")
	checkAll(t, "another first one", v, m)
}
