package night_test

import (
	"fmt"
	"math/rand/v2"
	"regexp"
	"slices"
	"strconv"
	"strings"
	"testing"

	"noongun/api"
	"noongun/night"
)

const exampleText = "a 0 100 0 5\nb 90 150 0 9\nc 160 200 30000 6\n"

func textOf(l []api.Chance) string {
	var s strings.Builder
	for _, c := range l {
		fmt.Fprintf(&s, "%s %d %d %d %d\n", c.Name, c.From, c.To, c.Tilt, c.Worth)
	}
	return s.String()
}

var chanceLine = regexp.MustCompile(`\A([a-z][a-z0-9_]{0,15}) (0|[1-9][0-9]{0,7}) ([1-9][0-9]{0,7}) (0|-?[1-9][0-9]{0,4}) (0|[1-9][0-9]{0,6})\n\z`)

// parsed is what Parse must return, line by line: no text of Format begins with a line that is not as it should be behind those before.
func parsed(s string) (l []api.Chance, line int, e api.Errno) {
	if len(s) > 65536 {
		return nil, 0, api.ErrLong
	}
	names := map[string]bool{}
	for k, text := range strings.SplitAfter(s, "\n") {
		if text == "" {
			break
		}
		parts := chanceLine.FindStringSubmatch(text)
		if k >= 20 || parts == nil || names[parts[1]] {
			return nil, k, api.ErrSyntax
		}
		var n [4]int
		for i := range n {
			n[i], _ = strconv.Atoi(parts[2+i])
		}
		if n[0] >= n[1] || n[1] > 86400000 || n[2] < -90000 || n[2] > 90000 || n[3] > 1000000 {
			return nil, k, api.ErrSyntax
		}
		if k > 0 && (n[0] < l[k-1].From || n[0] == l[k-1].From && parts[1] < l[k-1].Name) {
			return nil, k, api.ErrSyntax
		}
		names[parts[1]] = true
		l = append(l, api.Chance{Name: parts[1], From: n[0], To: n[1], Tilt: n[2], Worth: n[3]})
	}
	return l, 0, api.OK
}

func checkParse(t *testing.T, s string) api.Errno {
	t.Helper()
	want, wantLine, wantError := parsed(s)
	l, line, e := night.Parse(s)
	if !slices.Equal(l, want) || line != wantLine || e != wantError {
		t.Fatalf("Parse(%.200q) = %v, %d, %d, not %v, %d, %d", s, l, line, e, want, wantLine, wantError)
	}
	if e == api.OK && night.Format(l) != s {
		t.Fatalf("Format(%v) is not %q", l, s)
	}
	return e
}

// P8.6
func TestFormatAndBack(t *testing.T) {
	if s := night.Format(example()); s != exampleText {
		t.Errorf("%q", s)
	}
	if l, line, e := night.Parse(exampleText); !slices.Equal(l, example()) || line != 0 || e != api.OK {
		t.Error(l, line, e)
	}
	if s := night.Format(nil); s != "" {
		t.Errorf("no chances: %q", s)
	}
	if l, line, e := night.Parse(""); len(l) != 0 || line != 0 || e != api.OK {
		t.Error("the empty text", l, line, e)
	}
	r := random()
	for range 1000 {
		l := anyChances(r, r.IntN(21))
		s := night.Format(l)
		if s != textOf(l) {
			t.Fatalf("%q", s)
		}
		if got, line, e := night.Parse(s); !slices.Equal(got, l) || line != 0 || e != api.OK {
			t.Fatal(got, line, e)
		}
		checkParse(t, s)
	}
}

// As many chances and bytes as there can be.
func TestTheLongestText(t *testing.T) {
	var l []api.Chance
	for i := range 20 {
		l = append(l, api.Chance{Name: "abcdefghijklmn" + strconv.Itoa(10+i), From: api.Day - 1, To: api.Day, Tilt: -90000, Worth: 1000000})
	}
	s := night.Format(l)
	if s != textOf(l) || len(s) != 20*(16+1+8+1+8+1+6+1+7+1) {
		t.Error(len(s))
	}
	if got, line, e := night.Parse(s); !slices.Equal(got, l) || line != 0 || e != api.OK {
		t.Error(len(got), line, e)
	}
	if checkParse(t, s+"z 86399999 86400000 0 0\n") != api.ErrSyntax || checkParse(t, s+strings.Repeat("x", 65536-len(s)+1)) != api.ErrLong {
		t.Error("more than that")
	}
}

func TestNoTexts(t *testing.T) {
	for _, l := range badLists() {
		if s := night.Format(l); s != "" {
			t.Errorf("%d chances: %.50q", len(l), s)
		}
		if e := checkParse(t, textOf(l)); e == api.OK {
			t.Error(l)
		}
	}
}

func TestFirstWrongLine(t *testing.T) {
	full := textOf(twenty())
	for _, c := range []struct {
		s    string
		line int
	}{
		{"\n", 0}, {" ", 0}, {"a", 0}, {"a\n", 0}, {"a 1 2 3\n", 0}, {"a 1 2 3 4", 0}, {"a 1 2 3 4 \n", 0}, {"a 1 2 3 4 5\n", 0}, {" a 1 2 3 4\n", 0}, {"a  1 2 3 4\n", 0}, {"a 1 2 3  4\n", 0}, {"a\t1 2 3 4\n", 0}, {"a 1 2 3 4\r\n", 0}, {"a,1,2,3,4\n", 0},
		{"A 1 2 3 4\n", 0}, {"1 1 2 3 4\n", 0}, {"_ 1 2 3 4\n", 0}, {" 1 2 3 4\n", 0}, {"1 2 3 4\n", 0}, {"abcdefghijklmnopq 1 2 3 4\n", 0}, {"é 1 2 3 4\n", 0}, {"a- 1 2 3 4\n", 0},
		{"a 01 2 3 4\n", 0}, {"a 1 02 3 4\n", 0}, {"a 1 2 03 4\n", 0}, {"a 1 2 3 04\n", 0}, {"a -0 2 3 4\n", 0}, {"a 1 2 -0 4\n", 0}, {"a 1 2 3 -0\n", 0}, {"a +1 2 3 4\n", 0}, {"a 1 2 +3 4\n", 0}, {"a 1 2 -03 4\n", 0}, {"a 1 2 --3 4\n", 0}, {"a 1 2 - 4\n", 0}, {"a 1 2 3 1_0\n", 0}, {"a 0x1 2 3 4\n", 0}, {"a 1.0 2 3 4\n", 0}, {"a 1 2 3 1e1\n", 0},
		{"a 99999999999999999999 2 3 4\n", 0}, {"a 1 18446744073709551618 3 4\n", 0}, {"a 1 2 3 18446744073709551616\n", 0}, {"a 1 2 -18446744073709551616 4\n", 0},
		{"a -1 2 3 4\n", 0}, {"a 2 2 3 4\n", 0}, {"a 3 2 3 4\n", 0}, {"a 1 86400001 3 4\n", 0}, {"a 86400000 86400000 3 4\n", 0}, {"a 1 2 90001 4\n", 0}, {"a 1 2 -90001 4\n", 0}, {"a 1 2 3 1000001\n", 0}, {"a 1 2 3 -1\n", 0}, {"a 1 -2 3 4\n", 0},
		{"a 1 2 3 4\n\n", 1}, {"a 1 2 3 4\nb", 1}, {"a 1 2 3 4\nb 1 2 3 4", 1}, {"a 1 2 3 4\n\nb 1 2 3 4\n", 1}, {"a 1 2 3 4\n ", 1}, {"a 1 2 3 4\na 1 2 3 4\n", 1}, {"a 1 2 3 4\na 5 6 3 4\n", 1}, {"b 1 2 3 4\na 1 2 3 4\n", 1}, {"a 1 2 3 4\nb 0 2 3 4\n", 1},
		{"a 1 2 3 4\nb 1 2 3 4\na 2 3 3 4\n", 2}, {"a 1 2 3 4\nc 2 3 3 4\nb 2 3 3 4\nx", 2}, {"a 1 2 3 4\nx\ny\n", 1}, {exampleText + "x", 3}, {exampleText + "\x00", 3}, {exampleText[:len(exampleText)-1], 2}, {exampleText + exampleText, 3},
		{full + "z 50000 50001 0 0\n", 20}, {full + "x", 20}, {full + "\n", 20}, {full[:len(full)-1], 19}, {full + full, 20},
	} {
		if l, line, e := night.Parse(c.s); len(l) != 0 || line != c.line || e != api.ErrSyntax {
			t.Errorf("Parse(%.200q) = %v, %d, %d, not line %d", c.s, l, line, e, c.line)
		}
		checkParse(t, c.s)
	}
	for _, s := range []string{"a 0 86400000 -90000 0\n", "a 0 1 90000 1000000\n", "abcdefghijklmno_ 0 1 -1 1\n", "z9_ 86399999 86400000 0 0\n", "a 1 2 3 4\nb 1 2 3 4\n", "b 1 9 3 4\na 2 3 3 4\n"} {
		if checkParse(t, s) != api.OK {
			t.Errorf("%q", s)
		}
	}
}

func TestLongTexts(t *testing.T) {
	for _, s := range []string{exampleText, "a 1 2 3 4\n", "\n", "0", " ", "a", "a 1 2 3 4", "a "} {
		for length := api.MaxText - 1; length <= api.MaxText+1; length++ {
			want := api.ErrSyntax
			if length > api.MaxText {
				want = api.ErrLong
			}
			if e := checkParse(t, strings.Repeat(s, length/len(s)+1)[:length]); e != want {
				t.Errorf("%q, %d: %d", s, length, e)
			}
		}
	}
	if e := checkParse(t, strings.Repeat(exampleText, 100000)); e != api.ErrLong {
		t.Error("far too long", e)
	}
}

// Each byte of a text becomes each other byte, is left out and is doubled.
func TestTextsThatAreNearlyThoseOfFormat(t *testing.T) {
	met := map[api.Errno]int{}
	for _, s := range []string{exampleText, "a 9 10 -1 0\nab 9 86400000 90000 1\n", "z_9 86399999 86400000 -90000 1000000\n"} {
		for i := range len(s) {
			for b := range 256 {
				met[checkParse(t, s[:i]+string([]byte{byte(b)})+s[i+1:])]++
				met[checkParse(t, s[:i]+string([]byte{byte(b)})+s[i:])]++
			}
			met[checkParse(t, s[:i])]++
			met[checkParse(t, s[i:])]++
			met[checkParse(t, s[:i]+s[i+1:])]++
		}
	}
	if met[api.OK] < 100 || met[api.ErrSyntax] < 10000 {
		t.Error("hardly tried", met)
	}
}

// Texts of words that are right somewhere.
func TestTextsOfWords(t *testing.T) {
	r := random()
	met := map[api.Errno]int{}
	for range 20000 {
		s := ""
		for i := range r.IntN(4) {
			s += lineOfWords(r, i)
		}
		met[checkParse(t, s)]++
	}
	if met[api.OK] < 1000 || met[api.ErrSyntax] < 1000 {
		t.Error("hardly tried", met)
	}
}

func lineOfWords(r *rand.Rand, i int) string {
	words := []string{"0", "5", "05", "-5", "-0", "+5", "90000", "90001", "-90001", "1000000", "1000001", "86400000", "86400001", "", " ", "a", "b", "\t", "é"}
	l := []string{string([]byte{byte('a' + r.IntN(4))}), strconv.Itoa(3*i + r.IntN(4)), "20", strconv.Itoa(r.IntN(5) - 2), "7"}
	if r.IntN(3) == 0 {
		l[r.IntN(len(l))] = words[r.IntN(len(words))]
	}
	return strings.Join(l[:len(l)-r.IntN(5)*r.IntN(2)*r.IntN(2)], " ") + "\n"
}
