package gun_test

import (
	"fmt"
	"regexp"
	"slices"
	"strconv"
	"strings"
	"testing"

	"noongun/api"
	"noongun/gun"
)

const exampleText = "0 0 9900 10100\n-2000 4000 0 1000000\n"

func textOf(l []api.Shot) string {
	s := ""
	for _, x := range l {
		s += fmt.Sprintf("%d %d %d %d\n", x.Gun.X, x.Gun.Y, x.Lag.Lo, x.Lag.Hi)
	}
	return s
}

var shotLine = regexp.MustCompile(`\A(0|-?[1-9][0-9]{0,4}) (0|-?[1-9][0-9]{0,4}) (0|[1-9][0-9]{0,6}) (0|[1-9][0-9]{0,6})\n\z`)

// parsed is what Parse must return, line by line: no text of Format begins with a line that is not as it should be.
func parsed(s string) (l []api.Shot, line int, e api.Errno) {
	if len(s) > 65536 {
		return nil, 0, api.ErrLong
	}
	for k, text := range strings.SplitAfter(s, "\n") {
		if text == "" {
			break
		}
		m := shotLine.FindStringSubmatch(text)
		if m == nil || k >= 6 {
			return nil, k, api.ErrSyntax
		}
		var n [4]int
		for i := range n {
			n[i], _ = strconv.Atoi(m[i+1])
		}
		if n[0] < -50000 || n[0] > 50000 || n[1] < -50000 || n[1] > 50000 || n[2] > n[3] || n[3] > 1000000 {
			return nil, k, api.ErrSyntax
		}
		l = append(l, api.Shot{Gun: api.Point{X: n[0], Y: n[1]}, Lag: api.Span{Lo: n[2], Hi: n[3]}})
	}
	return l, 0, api.OK
}

func checkParse(t *testing.T, s string) api.Errno {
	t.Helper()
	want, wantLine, wantError := parsed(s)
	l, line, e := gun.Parse(s)
	if !slices.Equal(l, want) || line != wantLine || e != wantError {
		t.Fatalf("Parse(%.200q) = %v, %d, %d, not %v, %d, %d", s, l, line, e, want, wantLine, wantError)
	}
	if e == api.OK && gun.Format(l) != s {
		t.Fatalf("Format(%v) is not %q", l, s)
	}
	return e
}

// P5.6
func TestFormatAndBack(t *testing.T) {
	if s := gun.Format(shots()); s != exampleText {
		t.Errorf("%q", s)
	}
	if s := gun.Format(nil); s != "" {
		t.Errorf("%q", s)
	}
	if l, line, e := gun.Parse(""); len(l) != 0 || line != 0 || e != api.OK {
		t.Error("the empty text", l, line, e)
	}
	r := random()
	for range 5000 {
		l := anyShots(r, anyAir(r), anyPlace(r, 50000), []int{3, 50000}[r.IntN(2)])
		s := gun.Format(l)
		if s != textOf(l) {
			t.Errorf("%q", s)
		}
		if got, line, e := gun.Parse(s); !slices.Equal(got, l) || line != 0 || e != api.OK {
			t.Error(l, got, line, e)
		}
		checkParse(t, s)
	}
	widest := slices.Repeat([]api.Shot{{Gun: ends[0], Lag: api.Span{Lo: 1000000, Hi: 1000000}}}, 6)
	if got, _, e := gun.Parse(gun.Format(widest)); !slices.Equal(got, widest) || e != api.OK {
		t.Error(got, e)
	}
}

func TestNoTexts(t *testing.T) {
	for _, l := range badShots() {
		if s := gun.Format(l); s != "" {
			t.Errorf("%v: %q", l, s)
		}
		if len(l) > 0 && checkParse(t, textOf(l)) != api.ErrSyntax {
			t.Error(l)
		}
	}
}

func TestFirstWrongLine(t *testing.T) {
	six := strings.Repeat("7 -1 5 9\n", 6)
	for _, c := range []struct {
		s    string
		line int
	}{
		{"\n", 0}, {" ", 0}, {"0", 0}, {"0 0 0 0", 0}, {"0 0 0 0 \n", 0}, {"0 0  0 0\n", 0}, {" 0 0 0 0\n", 0}, {"0 0 0\n", 0}, {"0 0 0 0 0\n", 0}, {"0\n", 0}, {"a 0 0 0\n", 0}, {"0 a 0 0\n", 0}, {"0 0 a 0\n", 0}, {"0 0 0 a\n", 0},
		{"-50001 0 0 0\n", 0}, {"50001 0 0 0\n", 0}, {"0 -50001 0 0\n", 0}, {"0 50001 0 0\n", 0}, {"0 0 -1 0\n", 0}, {"0 0 0 -1\n", 0}, {"0 0 -2 -1\n", 0}, {"0 0 0 1000001\n", 0}, {"0 0 1000001 1000001\n", 0}, {"0 0 6 5\n", 0},
		{"00 0 0 0\n", 0}, {"-0 0 0 0\n", 0}, {"+0 0 0 0\n", 0}, {"0 -0 0 0\n", 0}, {"0 01 0 0\n", 0}, {"0 -01 0 0\n", 0}, {"0 +1 0 0\n", 0}, {"0 0 -0 0\n", 0}, {"0 0 00 0\n", 0}, {"0 0 0 +5\n", 0}, {"0 0 0 05\n", 0}, {"0 0 0 1_0\n", 0}, {"0 0 0 1e2\n", 0}, {"0 0 0 0x5\n", 0}, {"0 0 0 5.0\n", 0}, {"- 0 0 0\n", 0}, {"--1 0 0 0\n", 0},
		{"0 0 0 0\r\n", 0}, {"0\t0 0 0\n", 0}, {"0 0 0 0\n\n", 1}, {"0 0 0 0\n0", 1}, {"0 0 0 0\n\n0 0 9 8\n", 1}, {"99999999999999999999 0 0 0\n", 0}, {"0 0 0 99999999999999999999\n", 0}, {"0 -99999999999999999999 0 0\n", 0},
		{"5 1 0 0\n5 1 1 0\n", 1}, {"5 1 0 0\n5 1 1 1", 1}, {exampleText + "0 0 1 0\n", 2}, {exampleText + "0 0 0 1", 2}, {exampleText + "\x00", 2}, {exampleText[:len(exampleText)-1], 1}, {exampleText[1:], 0},
		{six + "7 -1 5 9\n", 6}, {six + "x", 6}, {six + "\n", 6}, {six[:len(six)-1], 5}, {six + "7 -1 5 9", 6}, {six + six, 6}, {strings.Repeat(six, 1000), 6}, {"7 -1 5 9\n7 -1 5 9\nx\n" + six, 2}, {six[9:] + "\n", 5},
	} {
		if l, line, e := gun.Parse(c.s); len(l) != 0 || line != c.line || e != api.ErrSyntax {
			t.Errorf("Parse(%.200q) = %v, %d, %d, not line %d", c.s, l, line, e, c.line)
		}
		checkParse(t, c.s)
	}
}

func TestLongTexts(t *testing.T) {
	for _, s := range []string{exampleText, "0 0 0 0\n", "\n", "0", " ", "a"} {
		for length := api.MaxText - 1; length <= api.MaxText+1; length++ {
			long := strings.Repeat(s, length/len(s)+1)[:length]
			want := api.ErrSyntax
			if length > api.MaxText {
				want = api.ErrLong
			}
			if e := checkParse(t, long); e != want {
				t.Errorf("%q, %d: %d", s, length, e)
			}
		}
	}
	if e := checkParse(t, "0 "+strings.Repeat("0 ", 32000)+"\n"); e != api.ErrSyntax {
		t.Error("a long line", e)
	}
	if e := checkParse(t, strings.Repeat(exampleText, 100000)); e != api.ErrLong {
		t.Error("far too long", e)
	}
}

// Each byte of a text becomes each other byte, is left out and is doubled.
func TestTextsThatAreNearlyThoseOfFormat(t *testing.T) {
	met := map[api.Errno]int{}
	for _, s := range []string{exampleText, "-5 -1 100 200\n50000 6 0 0\n9 -50000 7 7\n"} {
		for i := range len(s) {
			for b := range 256 {
				met[checkParse(t, s[:i]+string([]byte{byte(b)})+s[i+1:])]++
				met[checkParse(t, s[:i]+string([]byte{byte(b)})+s[i:])]++
			}
			met[checkParse(t, s[:i])]++
			met[checkParse(t, s[i:])]++
			met[checkParse(t, s[:i]+s[i+1:])]++
		}
	}
	if met[api.OK] < 100 || met[api.ErrSyntax] < 10000 {
		t.Error("hardly tried", met)
	}
}

// Texts of words that are right somewhere.
func TestTextsOfWords(t *testing.T) {
	words := []string{"0", "1", "2", "9", "10", "-1", "-0", "01", "-50000", "-50001", "50000", "50001", "1000000", "1000001", "", "a"}
	r := random()
	met := map[api.Errno]int{}
	for range 20000 {
		s := ""
		for range r.IntN(8) {
			l := []string{strconv.Itoa(r.IntN(9) - 4), "-7", "1", "8", "9"}
			if r.IntN(4) == 0 {
				l[r.IntN(len(l))] = words[r.IntN(len(words))]
			}
			s += strings.Join(l[:4+r.IntN(20)/19], " ") + "\n"
		}
		met[checkParse(t, s)]++
	}
	if met[api.OK] < 1000 || met[api.ErrSyntax] < 1000 {
		t.Error("hardly tried", met)
	}
}
