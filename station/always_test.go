package station_test

import (
	"math"
	"math/rand/v2"
	"slices"
	"strings"
	"testing"

	"noongun/api"
	"noongun/station"
)

// anyText is made of what lines and books are made of.
func anyText(r *rand.Rand) string {
	var text strings.Builder
	for range r.IntN(12) {
		text.WriteString(pick(r, "sight", "event", "close", "say", "found", "error", "best", "off", "torn", "mended", "hoist", "drop", " ", " ", " ", " ", "0", "1", "-", "999999999999", "\n", "\x00", "\xff", "é", "0 94f2ef5f82844f25 close\n"))
	}
	return text.String()
}

// P10.1: no call panics, each ends and does the same again, and errors come alone.
func TestAnyTexts(t *testing.T) {
	r := random()
	x, y := set(t, rates()), set(t, rates())
	for range 30000 {
		text := anyText(r)
		reply, e := x.Do(text)
		if again, f := y.Do(text); again != reply || f != e || (reply == "") != (e != api.OK) {
			t.Fatalf("%q: %q, %d, %q, %d", text, reply, e, again, f)
		}
		checkBook(t, text)
		checkAlone(t, text)
		if len(textsOf(t, x)) == api.MaxLines {
			x, y = set(t, rates()), set(t, rates())
		}
	}
	if told(x) != told(y) {
		t.Error(told(x), told(y))
	}
}

// checkAlone calls all that reads a book.
func checkAlone(t *testing.T, book string) {
	t.Helper()
	x, n, e := station.Replay(mast(), rates(), book)
	if (x == nil) != (e != api.OK) || n < 0 || e != api.OK && e != api.ErrSum && n != 0 {
		t.Fatalf("Replay(%.500q): %d, %d", book, n, e)
	}
	replies, f := station.Replies(mast(), rates(), book)
	days, g := station.Faults(mast(), rates(), book)
	if f != e || g != e || e != api.OK && len(replies)+len(days) != 0 || e == api.OK && len(replies) != n {
		t.Fatalf("%.500q: %v, %d, %v, %d", book, replies, f, days, g)
	}
	same, f := station.Parting(book, book)
	l, _, g := station.Lines(book)
	if f != g || e == api.OK && f != api.OK || f == api.OK && same != len(l) || f != api.OK && same != 0 {
		t.Fatalf("Parting(%.500q): %d, %d", book, same, f)
	}
}

func TestExtremeArguments(t *testing.T) {
	for _, n := range []int{math.MinInt, -1, 0, 1, math.MaxInt} {
		m := api.Mast{Noon: n, Half: n, Full: n, Late: n, Again: n, Wind: n}
		for _, l := range [][]int{{n}, {0, n}, {n, n, n}} {
			x, e := station.New(m, l)
			if x != nil || e != api.ErrInvalid {
				t.Error(n, l, e)
			}
		}
	}
	for _, text := range []string{"", strings.Repeat("\n", 1000000), strings.Repeat(" ", 1000000), strings.Repeat("0 ", 300000), strings.Repeat("close\n", 100000), string(make([]byte, 600000))} {
		checkAlone(t, text)
		checkRefused(t, set(t, rates(), "close"), text, api.ErrCommand)
	}
}

// A nil slice and an empty one are the same, and what is given is not changed.
func TestArguments(t *testing.T) {
	whole := append(rates(), 77, 78)
	before := slices.Clone(whole)
	x, e := station.New(mast(), whole[:2])
	if e != api.OK {
		t.Fatal(e)
	}
	all(t, x, "sight 0 1 0 5 6", "close", "sight 0 1 0 5 6")
	for _, call := range []func(rates []int){
		func(rates []int) { station.Replay(mast(), rates, x.Book()) }, func(rates []int) { station.Replies(mast(), rates, x.Book()) }, func(rates []int) { station.Faults(mast(), rates, x.Book()) },
	} {
		call(whole[:2])
		call(nil)
		call([]int{})
	}
	if !slices.Equal(whole, before) {
		t.Error(whole)
	}
}

// What Lines returns is new each time.
func TestLinesAreNewMemory(t *testing.T) {
	book := bookOf("close", "torn 5")
	first, _, _ := station.Lines(book)
	want := slices.Clone(first)
	scribble(first, api.Line{Number: -1})
	if again, _, e := station.Lines(book); !slices.Equal(again, want) || e != api.OK {
		t.Error(again, e)
	}
}
