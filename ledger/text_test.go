package ledger_test

import (
	"fmt"
	"hash/fnv"
	"math/rand/v2"
	"regexp"
	"slices"
	"strconv"
	"strings"
	"testing"

	"noongun/api"
	"noongun/ledger"
)

const exampleText = "5 said 100\n5 found 180\n6 said 90\n5 found 170\n"

func textOf(l []api.Entry) string {
	var s strings.Builder
	for _, x := range l {
		kind := map[bool]string{false: "said", true: "found"}[x.Found]
		fmt.Fprintf(&s, "%d %s %d\n", x.Day, kind, x.Error)
	}
	return s.String()
}

var entryLine = regexp.MustCompile(`\A(0|[1-9][0-9]{0,5}) (said|found) (0|-?[1-9][0-9]{0,7})\n\z`)

// parsed is what Parse must return, line by line.
func parsed(s string) (l []api.Entry, line int, e api.Errno) {
	if len(s) > 65536 {
		return nil, 0, api.ErrLong
	}
	for k, text := range strings.SplitAfter(s, "\n") {
		if text == "" {
			break
		}
		parts := entryLine.FindStringSubmatch(text)
		if k >= 1000 || parts == nil {
			return nil, k, api.ErrSyntax
		}
		day, _ := strconv.Atoi(parts[1])
		n, _ := strconv.Atoi(parts[3])
		if day > 182985 || n < -86400000 || n > 86400000 {
			return nil, k, api.ErrSyntax
		}
		l = append(l, api.Entry{Day: day, Found: parts[2] == "found", Error: n})
	}
	return l, 0, api.OK
}

func checkParse(t *testing.T, s string) api.Errno {
	t.Helper()
	want, wantLine, wantError := parsed(s)
	l, line, e := ledger.Parse(s)
	if !slices.Equal(l, want) || line != wantLine || e != wantError {
		t.Fatalf("Parse(%.200q) = %v, %d, %d, not %v, %d, %d", s, l, line, e, want, wantLine, wantError)
	}
	if e == api.OK && ledger.Format(l) != s {
		t.Fatalf("Format(%v) is not %q", l, s)
	}
	return e
}

func digestOf(text string) uint64 {
	h := fnv.New64a()
	h.Write([]byte(text))
	return h.Sum64()
}

// P9.6
func TestFormatAndBack(t *testing.T) {
	if s := ledger.Format(example()); s != exampleText {
		t.Errorf("%q", s)
	}
	if l, line, e := ledger.Parse(exampleText); !slices.Equal(l, example()) || line != 0 || e != api.OK {
		t.Error(l, line, e)
	}
	if s := ledger.Format(nil); s != "" {
		t.Errorf("no entries: %q", s)
	}
	if l, line, e := ledger.Parse(""); len(l) != 0 || line != 0 || e != api.OK {
		t.Error("the empty text", l, line, e)
	}
	r := random()
	for range 1000 {
		l := anyEntries(r, r.IntN(60))
		s := ledger.Format(l)
		if s != textOf(l) {
			t.Fatalf("%q", s)
		}
		if got, line, e := ledger.Parse(s); !slices.Equal(got, l) || line != 0 || e != api.OK {
			t.Fatal(got, line, e)
		}
		checkParse(t, s)
	}
}

// P9.6
func TestDigest(t *testing.T) {
	r := random()
	lists := append(shortLists(4), full())
	for range 500 {
		lists = append(lists, anyEntries(r, r.IntN(40)))
	}
	texts := map[uint64]string{}
	for _, l := range lists {
		digest := ledger.Digest(l)
		if digest != digestOf(textOf(l)) || digest != ledger.Digest(slices.Clone(l)) {
			t.Fatal(l, digest)
		}
		if other, met := texts[digest]; met && other != textOf(l) {
			t.Errorf("the same digest: %q, %q", other, textOf(l))
		}
		texts[digest] = textOf(l)
	}
	if len(texts) < 4000 {
		t.Error("hardly tried", len(texts))
	}
	for _, l := range append(badLists(), nil, []api.Entry{}) {
		if digest := ledger.Digest(l); digest != 14695981039346656037 {
			t.Error(len(l), digest)
		}
	}
}

// As many entries and bytes as there can be.
func TestTheLongestText(t *testing.T) {
	l := slices.Repeat([]api.Entry{found(lastDay, -api.Day)}, 1000)
	s := ledger.Format(l)
	if s != textOf(l) || len(s) != 1000*(6+1+5+1+9+1) {
		t.Error(len(s))
	}
	if got, line, e := ledger.Parse(s); !slices.Equal(got, l) || line != 0 || e != api.OK {
		t.Error(len(got), line, e)
	}
	if checkParse(t, s+"0 said 0\n") != api.ErrSyntax || checkParse(t, s+strings.Repeat("x", 65536-len(s))) != api.ErrSyntax || checkParse(t, s+strings.Repeat("x", 65536-len(s)+1)) != api.ErrLong {
		t.Error("more than that")
	}
}

func TestNoTexts(t *testing.T) {
	for _, l := range badLists() {
		if s := ledger.Format(l); s != "" {
			t.Errorf("%d entries: %.50q", len(l), s)
		}
		if e := checkParse(t, textOf(l)); e == api.OK {
			t.Error(l)
		}
	}
}

func TestFirstWrongLine(t *testing.T) {
	all := textOf(full())
	for _, c := range []struct {
		s    string
		line int
	}{
		{"\n", 0}, {" ", 0}, {"5", 0}, {"5\n", 0}, {"5 said\n", 0}, {"5 said \n", 0}, {"5 said 1", 0}, {"5 said 1 \n", 0}, {"5 said 1 2\n", 0}, {" 5 said 1\n", 0}, {"5  said 1\n", 0}, {"5 said  1\n", 0}, {"5\tsaid 1\n", 0}, {"5 said 1\r\n", 0}, {"5,said,1\n", 0}, {"said 1\n", 0}, {"said 5 1\n", 0}, {"5 1 said\n", 0},
		{"5 Said 1\n", 0}, {"5 SAID 1\n", 0}, {"5 say 1\n", 0}, {"5 foun 1\n", 0}, {"5 founds 1\n", 0}, {"5 sai 1\n", 0}, {"5 saidfound 1\n", 0}, {"5 true 1\n", 0}, {"5 0 1\n", 0}, {"5 unfound 1\n", 0}, {"5  1\n", 0},
		{"05 said 1\n", 0}, {"00 said 1\n", 0}, {"-0 said 1\n", 0}, {"+5 said 1\n", 0}, {"5 said 01\n", 0}, {"5 said 00\n", 0}, {"5 said -0\n", 0}, {"5 said +1\n", 0}, {"5 said -01\n", 0}, {"5 said --1\n", 0}, {"5 said -\n", 0}, {"- said 1\n", 0}, {"5 said 1_0\n", 0}, {"0x5 said 1\n", 0}, {"5 said 1.0\n", 0}, {"5 said 1e1\n", 0}, {"٥ said 1\n", 0},
		{"99999999999999999999 said 1\n", 0}, {"18446744073709551621 said 1\n", 0}, {"5 said 18446744073709551616\n", 0}, {"5 said -18446744073709551616\n", 0},
		{"-1 said 1\n", 0}, {"182986 said 1\n", 0}, {"182986 found 1\n", 0}, {"5 said 86400001\n", 0}, {"5 found -86400001\n", 0},
		{"5 said 1\n\n", 1}, {"5 said 1\n6", 1}, {"5 said 1\n6 said 1", 1}, {"5 said 1\n\n6 said 1\n", 1}, {"5 said 1\n ", 1}, {"5 said 1\n5 said 1\n5 said x\n", 2}, {"5 said 1\nx\ny\n", 1}, {exampleText + "x", 4}, {exampleText + "\x00", 4}, {exampleText[:len(exampleText)-1], 3},
		{all + "0 said 0\n", 1000}, {all + "x", 1000}, {all + "\n", 1000}, {all + "0 said 0\nx", 1000}, {all[:len(all)-1], 999}, {all + all, 1000},
	} {
		if l, line, e := ledger.Parse(c.s); len(l) != 0 || line != c.line || e != api.ErrSyntax {
			t.Errorf("Parse(%.200q) = %v, %d, %d, not line %d", c.s, l, line, e, c.line)
		}
		checkParse(t, c.s)
	}
	for _, s := range []string{"0 said 0\n", "182985 found -86400000\n", "182985 said 86400000\n", "9 said -1\n9 said -1\n0 found 10\n", "10 found 100\n", all} {
		if checkParse(t, s) != api.OK {
			t.Errorf("%q", s)
		}
	}
}

func TestLongTexts(t *testing.T) {
	for _, s := range []string{exampleText, "5 said 1\n", "\n", "0", " ", "5 said 1", "5 said ", "said"} {
		for length := api.MaxText - 1; length <= api.MaxText+1; length++ {
			want := api.ErrSyntax
			if length > api.MaxText {
				want = api.ErrLong
			}
			if e := checkParse(t, strings.Repeat(s, length/len(s)+1)[:length]); e != want {
				t.Errorf("%q, %d: %d", s, length, e)
			}
		}
	}
	if e := checkParse(t, strings.Repeat(exampleText, 100000)); e != api.ErrLong {
		t.Error("far too long", e)
	}
}

// Each byte of a text becomes each other byte, is left out and is doubled.
func TestTextsThatAreNearlyThoseOfFormat(t *testing.T) {
	met := map[api.Errno]int{}
	for _, s := range []string{exampleText, "0 said -1\n10 found 0\n", "182985 found -86400000\n182985 said 86400000\n"} {
		for i := range len(s) {
			for b := range 256 {
				met[checkParse(t, s[:i]+string([]byte{byte(b)})+s[i+1:])]++
				met[checkParse(t, s[:i]+string([]byte{byte(b)})+s[i:])]++
			}
			met[checkParse(t, s[:i])]++
			met[checkParse(t, s[i:])]++
			met[checkParse(t, s[:i]+s[i+1:])]++
		}
	}
	if met[api.OK] < 100 || met[api.ErrSyntax] < 10000 {
		t.Error("hardly tried", met)
	}
}

// Texts of words that are right somewhere.
func TestTextsOfWords(t *testing.T) {
	r := random()
	met := map[api.Errno]int{}
	for range 20000 {
		s := ""
		for range r.IntN(4) {
			s += lineOfWords(r)
		}
		met[checkParse(t, s)]++
	}
	if met[api.OK] < 1000 || met[api.ErrSyntax] < 1000 {
		t.Error("hardly tried", met)
	}
}

func lineOfWords(r *rand.Rand) string {
	words := []string{"0", "5", "05", "-5", "-0", "+5", "182985", "182986", "86400000", "86400001", "-86400000", "-86400001", "", " ", "said", "found", "\t", "é"}
	l := []string{strconv.Itoa(r.IntN(20)), []string{"said", "found"}[r.IntN(2)], strconv.Itoa(r.IntN(5) - 2)}
	if r.IntN(3) == 0 {
		l[r.IntN(len(l))] = words[r.IntN(len(words))]
	}
	return strings.Join(l[:len(l)-r.IntN(3)*r.IntN(2)*r.IntN(2)], " ") + "\n"
}
