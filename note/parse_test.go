package note

import (
	"strings"
	"testing"

	"dioptre/api"
	"dioptre/value"
)

// TestParse: P11.1: the right value whose text it is; cut off anywhere, or with more behind, as the model says.
func TestParse(t *testing.T) {
	for _, c := range valueTexts {
		v, e := Parse(c.s)
		if e != nil || !value.Same(v, c.v) {
			t.Errorf("Parse of %s: %v %v", c.s, v, e)
		}
		if !checkParse(t, c.s) {
			t.Errorf("%s is none", c.s)
		}
		for n := range len(c.s) {
			checkParse(t, c.s[:n])
			checkParse(t, c.s[n:])
		}
		for _, rest := range []string{" ", "\n", "\x00", ",", "]", "}", `"`, "0", "a", c.s} {
			checkParse(t, c.s+rest)
			checkParse(t, rest+c.s)
			checkParse(t, "[7:"+c.s+rest)
			checkParse(t, "{x="+c.s+rest)
		}
	}
}

// wrongTexts are no right value's.
func wrongTexts() []string {
	return []string{
		"", " ", "nil", "None", "True", "TRUE", "truefalse", "tru", "falsey", "true ", " true", "t", "f",
		"-", "+1", "-0", "00", "007", "-01", "1.0", "1e3", "0x10", "1_000", "1 ", " 1", "--1", "1-", "9223372036854775808", "-9223372036854775809", "18446744073709551616", strings.Repeat("9", 1000),
		`"`, `"a`, `a"`, `"a"b`, `"""`, `"\"`, `"\\"`, `"\0"`, `"\0A"`, `"\0x"`, `"\x0a"`, `"\n"`, `"\61"`, `"\20"`, `"\7e"`, `"\C3"`, `"\g0"`, `"\ 0"`, `"\+1"`, `"\-1"`, `"\0_"`, `"\5C"`,
		"\"\n\"", "\"\x00\"", "\"\x1f\"", "\"\x7f\"", "\"\x80\"", "\"ä\"", `"` + strings.Repeat("x", 65) + `"`, `"` + strings.Repeat(`\00`, 65) + `"`, `'a'`, "`a`",
		"#", "##a", "#A", "# a", "#a ", "#a b", "#abcdefghijklm", "#a#b", `#"a"`, "#-1", "#ä", "a", "red",
		"{", "}", "{a}", "{a=}", "{a=1", "{=1}", "{a=1,}", "{,a=1}", "{,}", "{ }", "{a=1 }", "{a =1}", "{a= 1}", "{a=1, b=2}", "{a=1,b}", "{a=1,b=}", "{a=1;b=2}", "{a:1}", "{A=1}", "{a=1}}", "{{a=1}",
		"{b=1,a=2}", "{a=1,a=1}", "{aa=1,a=1}", "{a=1,b=2,b=3}", "{abcdefghijklm=1}", `{"a"=1}`, "{a==1}", "{a=1,,b=2}", "{a=1b=2}", "{a=1]", "{a=b}", "{a=1}{a=1}",
		"{a=0,b=1,c=2,d=3,e=4,f=5,g=6,h=7,i=8}", "{a=0,b=1,c=2,d=3,e=4,f=5,g=6,h=7,}",
		"[", "]", "[1]", "[1:]", "[:1]", "[1:1", "[1:1,]", "[,1:1]", "[,]", "[ ]", "[1:1 ]", "[1 :1]", "[1: 1]", "[1:1, 2:2]", "[1=1]", "[0:1]", "[01:1]", "[-1:1]", "[+1:1]", "[a:1]", "[1:1]]", "[[1:1]", "[1:1}",
		"[1:1,1:2]", "[2:1,1:1,2:1]", "[18446744073709551616:1]", "[18446744073709551617:1]", "[1::1]", "[1:1,,2:2]", "[1:1,2]", "[1:12:2]", "[1_0:1]", "[0x1:1]", "[1:1][1:1]", "[1,2]", "[1:a]",
		"[9:0,1:1,12:2,3:3,4:4,5:5,6:6,7:7,8:8,2:9,10:10,11:11,13:12]", "[9:0,1:1,12:2,3:3,4:4,5:5,6:6,7:7,8:8,2:9,10:10,11:11,]",
		"[1:[1:[1:[1:[1:1]]]]]", "[1:[1:[1:[1:[1:]]]]]", "[1:[1:[1:[1:[]]]]", "[1:[1:[1:{a=[1:1]}]]]", "[1:[1:[1:{a={b={}}}]]]", "{a={a={a={a={a=1}}}}}", "{a={a={a={a={a={}}}}}}",
		"[1:2,1:[1:[1:[1:[1:1]]]]]", "\x00", "\xff", "true\x00", "1\n",
	}
}

// TestParseWrong: P11.1: ErrForm, if there is none, without a place, and no value; within others, as the model says.
func TestParseWrong(t *testing.T) {
	for _, s := range wrongTexts() {
		v, e := Parse(s)
		checkError(t, s, e, api.ErrForm)
		if !value.Same(v, api.Value{}) {
			t.Errorf("Parse of %q: %v", s, v)
		}
		for _, around := range [][2]string{{"", ""}, {"[1:", "]"}, {"{a=", "}"}, {"{a=1,b=", "}"}, {"[1:1,2:", ",3:3]"}, {"{", "}"}, {"[", "]"}, {`"`, `"`}, {"#", ""}} {
			checkParse(t, around[0]+s+around[1])
		}
	}
}

// TestParseAll: P11.1, P11.3: all texts of up to five of those bytes that say something, as the model says.
func TestParseAll(t *testing.T) {
	right := 0
	for _, letters := range []string{`{}[]=:,#"\0a1-`, `{a=[2:#},5"]`, `"\0a2fc7"`} {
		var try func(s string)
		try = func(s string) {
			if checkParse(t, s) {
				right++
			}
			for i := range len(letters) {
				if len(s) < 5 {
					try(s + letters[i:i+1])
				}
			}
		}
		try("")
	}
	if right < 2000 {
		t.Error("right:", right)
	}
}

// TestParseAny: P11.1, P11.3: what is printed is parsed; texts that were changed somewhere, as the model says.
func TestParseAny(t *testing.T) {
	const bytes = `{}[]=:,#"\0a1-te `
	r := chance()
	count := map[bool]int{}
	texts := map[string]string{}
	for range 20000 {
		v := someValue(r, 5)
		s, e := Print(v)
		back, e2 := Parse(s)
		if e != nil || e2 != nil || s != wantText(v) || !value.Same(back, v) {
			t.Fatalf("%v: %s %v, parsed %v %v", v, s, e, back, e2)
		}
		b, _ := value.Encode(v)
		if other, ok := texts[s]; ok && other != string(b) {
			t.Fatalf("two values have the text %s", s)
		}
		texts[s] = string(b)
		i := r.IntN(len(s))
		c := string(bytes[r.IntN(len(bytes))])
		switch r.IntN(4) {
		case 0:
			s = s[:i] + c + s[i:]
		case 1:
			s = s[:i] + c + s[i+1:]
		case 2:
			s = s[:i] + s[i+1:]
		default:
			k := i + r.IntN(len(s)-i)
			s = s[:k] + s[i:k] + s[k:]
		}
		count[checkParse(t, s)]++
	}
	if count[true] < 1000 || count[false] < 1000 {
		t.Errorf("%v", count)
	}
}

// TestParseLong: P11.1: every call ends, of a text however long it is.
func TestParseLong(t *testing.T) {
	const n = 1 << 20
	for _, part := range []string{"[1:", "{a=", "[", "{", "]", "1:1,", "[1:1,", "{a=1,", `"`, `\`, `"\`, `"\5c`, "#a", "9", "-", "true", ",", "=", ":", "[1:1,2:[3:3,", "\xff", "a=[", `[1:"`} {
		for _, front := range []string{"", "[", "{", `"`, "#", "[1:", "{a=", `[1:"`} {
			v, e := Parse(front + strings.Repeat(part, n/len(part)))
			checkError(t, front+part+"..", e, api.ErrForm)
			if !value.Same(v, api.Value{}) {
				t.Errorf("Parse of %s%s..: %v", front, part, v)
			}
		}
	}
	_, e := Parse("[" + strings.Repeat("1:1,2:2,3:3,", 1000) + "4:4]")
	checkError(t, "many", e, api.ErrForm)
}

// TestParseDeep: P11.1: every call ends, of a text with however many values within each other: there are more here than calls within calls may be.
func TestParseDeep(t *testing.T) {
	const n = 10000000
	for _, part := range []string{"[1:", "{a=", "[1:{a="} {
		_, e := Parse(strings.Repeat(part, n))
		checkError(t, part+"..", e, api.ErrForm)
	}
}
