package ball_test

import (
	"fmt"
	"math/rand/v2"
	"regexp"
	"slices"
	"strconv"
	"strings"
	"testing"

	"noongun/api"
	"noongun/ball"
)

const exampleText = "0 1 25\n42900000 2 0\n43080000 3 0\n43080000 6 0\n86399999 1 1000\n"

func example() []api.Event {
	return []api.Event{{At: 0, Kind: 1, N: 25}, {At: 42900000, Kind: 2}, {At: 43080000, Kind: 3}, {At: 43080000, Kind: 6}, {At: 86399999, Kind: 1, N: 1000}}
}

func textOf(l []api.Event) string {
	s := ""
	for _, e := range l {
		s += fmt.Sprintf("%d %d %d\n", e.At, e.Kind, e.N)
	}
	return s
}

var eventLine = regexp.MustCompile(`\A(0|[1-9][0-9]{0,7}) ([1-6]) (0|[1-9][0-9]{0,3})\n\z`)

// parsed is what Parse must return, line by line: no text of Format begins with a line that is not as it should be behind those before.
func parsed(s string) (l []api.Event, line int, e api.Errno) {
	if len(s) > 65536 {
		return nil, 0, api.ErrLong
	}
	before := 0
	for k, text := range strings.SplitAfter(s, "\n") {
		if text == "" {
			break
		}
		m := eventLine.FindStringSubmatch(text)
		if m == nil || k >= 100 {
			return nil, k, api.ErrSyntax
		}
		at, _ := strconv.Atoi(m[1])
		kind, _ := strconv.Atoi(m[2])
		n, _ := strconv.Atoi(m[3])
		if at > 86399999 || at < before || kind == 1 && n > 1000 || kind != 1 && n > 0 {
			return nil, k, api.ErrSyntax
		}
		l = append(l, api.Event{At: at, Kind: kind, N: n})
		before = at
	}
	return l, 0, api.OK
}

func checkParse(t *testing.T, s string) api.Errno {
	t.Helper()
	want, wantLine, wantError := parsed(s)
	l, line, e := ball.Parse(s)
	if !slices.Equal(l, want) || line != wantLine || e != wantError {
		t.Fatalf("Parse(%.200q) = %v, %d, %d, not %v, %d, %d", s, l, line, e, want, wantLine, wantError)
	}
	if e == api.OK && ball.Format(l) != s {
		t.Fatalf("Format(%v) is not %q", l, s)
	}
	return e
}

// events are in order, but not such that they are all allowed.
func events(r *rand.Rand, n int) []api.Event {
	var l []api.Event
	at := 0
	for range n {
		at += r.IntN(1000) * r.IntN(800)
		e := api.Event{At: at, Kind: 1 + r.IntN(6)}
		if e.Kind == 1 {
			e.N = r.IntN(1001)
		}
		l = append(l, e)
	}
	return l
}

// P4.6
func TestFormatAndBack(t *testing.T) {
	if s := ball.Format(example()); s != exampleText {
		t.Errorf("%q", s)
	}
	if s := ball.Format(nil); s != "" {
		t.Errorf("%q", s)
	}
	if l, line, e := ball.Parse(""); len(l) != 0 || line != 0 || e != api.OK {
		t.Error("the empty text", l, line, e)
	}
	r := random()
	for n := range 101 {
		l := events(r, n)
		s := ball.Format(l)
		if s != textOf(l) {
			t.Errorf("%q", s)
		}
		if got, line, e := ball.Parse(s); !slices.Equal(got, l) || line != 0 || e != api.OK {
			t.Error(n, got, line, e)
		}
		checkParse(t, s)
	}
	for _, x := range masts() {
		plan, _ := ball.Plan(x)
		second, _ := ball.Second(x)
		for _, l := range [][]api.Event{plan, second, anyLog(r, x, 30)} {
			if got, _, e := ball.Parse(ball.Format(l)); !slices.Equal(got, l) || e != api.OK {
				t.Error(l, got, e)
			}
		}
	}
	// a text may have events that no mast allows
	if e := checkParse(t, "5 4 0\n5 4 0\n5 6 0\n5 6 0\n5 5 0\n"); e != api.OK {
		t.Error(e)
	}
}

func TestNoTexts(t *testing.T) {
	for _, n := range []int{101, 102, 5000} {
		if s := ball.Format(make([]api.Event, n)); s != "" {
			t.Errorf("%d events: %.50q", n, s)
		}
		if s := ball.Format(slices.Repeat([]api.Event{{At: 5, Kind: 1}}, n)); s != "" {
			t.Errorf("%d events: %.50q", n, s)
		}
	}
	for _, bad := range badEvents() {
		for _, l := range [][]api.Event{{bad}, append(example()[:2], bad), append([]api.Event{bad}, example()...)} {
			if s := ball.Format(l); s != "" {
				t.Errorf("%v: %q", l, s)
			}
			if checkParse(t, textOf(l)) != api.ErrSyntax {
				t.Error(l)
			}
		}
	}
	for _, l := range [][]api.Event{{{At: 1, Kind: 1}, {At: 0, Kind: 1}}, {{At: 5, Kind: 6}, {At: 7, Kind: 6}, {At: 6, Kind: 6}}, append(example(), api.Event{At: 86399998, Kind: 6})} {
		if s := ball.Format(l); s != "" {
			t.Errorf("%v: %q", l, s)
		}
	}
}

func TestFirstWrongLine(t *testing.T) {
	hundred := strings.Repeat("7 1 5\n", 100)
	for _, c := range []struct {
		s    string
		line int
	}{
		{"\n", 0}, {" ", 0}, {"0", 0}, {"0 1 0", 0}, {"0 1 0 \n", 0}, {"0 1  0\n", 0}, {" 0 1 0\n", 0}, {"0 1\n", 0}, {"0 1 0 0\n", 0}, {"0\n", 0}, {"a 1 0\n", 0}, {"0 a 0\n", 0}, {"0 1 a\n", 0},
		{"-1 1 0\n", 0}, {"86400000 1 0\n", 0}, {"0 0 0\n", 0}, {"0 7 0\n", 0}, {"0 -1 0\n", 0}, {"0 1 -1\n", 0}, {"0 1 1001\n", 0}, {"0 2 1\n", 0}, {"0 3 1\n", 0}, {"0 4 1\n", 0}, {"0 5 1\n", 0}, {"0 6 1\n", 0}, {"0 10 0\n", 0},
		{"00 1 0\n", 0}, {"-0 1 0\n", 0}, {"+0 1 0\n", 0}, {"0 01 0\n", 0}, {"0 +1 0\n", 0}, {"0 1 00\n", 0}, {"0 1 -0\n", 0}, {"0 1 +5\n", 0}, {"0 1 05\n", 0}, {"0 1 1_0\n", 0}, {"0 1 1e2\n", 0}, {"0 1 0x5\n", 0},
		{"0 1 0\r\n", 0}, {"0\t1 0\n", 0}, {"0 1 0\n\n", 1}, {"0 1 0\n0", 1}, {"0 1 0\n\n0 1 9999\n", 1}, {"99999999999999999999 1 0\n", 0}, {"0 1 99999999999999999999\n", 0}, {"0 99999999999999999999 0\n", 0},
		{"5 1 0\n4 1 0\n", 1}, {"5 1 0\n5 1 0\n4 1 0\n", 2}, {"5 1 0\n4 1 0", 1}, {"5 1 0\n6 1 0", 1}, {exampleText + "0 1 0\n", 5}, {exampleText + "86399999 1 0", 5}, {exampleText + "\x00", 5}, {exampleText[:len(exampleText)-1], 4}, {exampleText + exampleText, 5},
		{hundred + "7 1 5\n", 100}, {hundred + "x", 100}, {hundred + "\n", 100}, {hundred[:len(hundred)-1], 99}, {hundred + "6 1 5\n\n", 100}, {strings.Repeat(hundred, 20), 100}, {strings.Repeat("7 1 5\n", 50) + "x\n" + hundred, 50},
	} {
		if l, line, e := ball.Parse(c.s); len(l) != 0 || line != c.line || e != api.ErrSyntax {
			t.Errorf("Parse(%.200q) = %v, %d, %d, not line %d", c.s, l, line, e, c.line)
		}
		checkParse(t, c.s)
	}
}

func TestLongTexts(t *testing.T) {
	for _, s := range []string{exampleText, "0 1 0\n", "\n", "0", " ", "a"} {
		for length := api.MaxText - 1; length <= api.MaxText+1; length++ {
			long := strings.Repeat(s, length/len(s)+1)[:length]
			want := api.ErrSyntax
			if length > api.MaxText {
				want = api.ErrLong
			}
			if e := checkParse(t, long); e != want {
				t.Errorf("%q, %d: %d", s, length, e)
			}
		}
	}
	if e := checkParse(t, "0 "+strings.Repeat("0 ", 32000)+"\n"); e != api.ErrSyntax {
		t.Error("a long line", e)
	}
	if e := checkParse(t, strings.Repeat(exampleText, 100000)); e != api.ErrLong {
		t.Error("far too long", e)
	}
}

// Each byte of a text becomes each other byte, is left out and is doubled.
func TestTextsThatAreNearlyThoseOfFormat(t *testing.T) {
	met := map[api.Errno]int{}
	for _, s := range []string{exampleText, "5 1 100\n5 6 0\n9 5 0\n"} {
		for i := range len(s) {
			for b := range 256 {
				met[checkParse(t, s[:i]+string([]byte{byte(b)})+s[i+1:])]++
				met[checkParse(t, s[:i]+string([]byte{byte(b)})+s[i:])]++
			}
			met[checkParse(t, s[:i])]++
			met[checkParse(t, s[i:])]++
			met[checkParse(t, s[:i]+s[i+1:])]++
		}
	}
	if met[api.OK] < 100 || met[api.ErrSyntax] < 10000 {
		t.Error("hardly tried", met)
	}
}

// Texts of words that are right somewhere.
func TestTextsOfWords(t *testing.T) {
	words := []string{"0", "1", "2", "3", "4", "5", "6", "7", "10", "-1", "-0", "01", "1000", "1001", "86399999", "86400000", "", "a"}
	r := random()
	met := map[api.Errno]int{}
	for range 20000 {
		s := ""
		for range r.IntN(4) {
			l := []string{strconv.Itoa(r.IntN(9) * len(s)), "1", "8"}
			if r.IntN(3) > 0 {
				l[r.IntN(len(l))] = words[r.IntN(len(words))]
			}
			s += strings.Join(l[:len(l)-r.IntN(8)/7], " ") + "\n"
		}
		met[checkParse(t, s)]++
	}
	if met[api.OK] < 1000 || met[api.ErrSyntax] < 1000 {
		t.Error("hardly tried", met)
	}
}
