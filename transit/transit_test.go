package transit_test

import (
	"math"
	"slices"
	"strings"
	"testing"

	"noongun/api"
	"noongun/transit"
)

func TestExamples(t *testing.T) {
	s := api.Star{Name: "vega", Slow: 2000}
	if at, e := transit.Crossing(three(), api.Transit{Star: s, Wires: []int{80000, -1, 120000}}); at != 100000 || e != api.OK {
		t.Error("Crossing", at, e)
	}
	two := list([2]int{0, 500}, [2]int{1000, 800})
	if r, e := transit.Reach(single(10), two); r != (api.Reach{Lo: api.Ratio{N: 490, D: 1}, Hi: api.Ratio{N: 510, D: 1}}) || e != api.OK {
		t.Error("Reach", r, e)
	}
	if r, e := transit.Azimuth(single(10), two); r != (api.Reach{Lo: api.Ratio{N: 280, D: 1}, Hi: api.Ratio{N: 320, D: 1}}) || e != api.OK {
		t.Error("Azimuth", r, e)
	}
}

func TestValidStar(t *testing.T) {
	for _, s := range []api.Star{
		star(0), {Name: "a", Slow: 1000}, {Name: "abcdefghijklmnop", Slow: 1000}, {Name: "z_9", Ascension: api.Day - 1, Shift: api.MaxFactor, Slow: api.MaxFactor}, {Name: "a__", Shift: -api.MaxFactor, Slow: 1000},
	} {
		if !transit.ValidStar(s) {
			t.Error(s)
		}
	}
	for _, s := range badStars() {
		if transit.ValidStar(s) {
			t.Error(s, "is valid")
		}
	}
}

func TestBytesOfNames(t *testing.T) {
	const small, more = "abcdefghijklmnopqrstuvwxyz", "abcdefghijklmnopqrstuvwxyz0123456789_"
	for b := range 256 {
		one := string([]byte{byte(b)})
		for name, want := range map[string]bool{one: strings.Contains(small, one), "a" + one: strings.Contains(more, one), "a" + one + "a": strings.Contains(more, one), "abcdefghijklmno" + one: strings.Contains(more, one)} {
			if transit.ValidStar(api.Star{Name: name, Slow: 1000}) != want {
				t.Errorf("%q: %v", name, !want)
			}
		}
	}
}

func TestValidTube(t *testing.T) {
	for _, x := range []api.Tube{
		three(), {Wires: []int{0}}, {Wires: []int{100000}}, {Wires: []int{-100000}, Error: 10000}, {Wires: []int{-100000, 100000}}, {Wires: []int{-3, -2, -1, 0, 1, 2, 3}}, {Wires: []int{99999, 100000}},
	} {
		if !transit.ValidTube(x) {
			t.Error(x)
		}
	}
	for _, x := range badTubes() {
		if transit.ValidTube(x) {
			t.Error(x, "is valid")
		}
	}
}

func TestFits(t *testing.T) {
	for _, l := range [][]int{{0}, {-1}, {api.Day - 1}} {
		if !transit.Fits(single(5), api.Transit{Star: star(0), Wires: l}) {
			t.Error(l)
		}
	}
	if !transit.Fits(three(), api.Transit{Star: star(0), Wires: []int{9, -1, 3}}) { // a clock may be set between two wires
		t.Error("times out of order")
	}
	for _, l := range [][]int{nil, {}, {1}, {1, 2}, {1, 2, 3, 4}, {-2, 0, 0}, {0, 0, api.Day}, {0, math.MinInt, 0}, {0, math.MaxInt, 0}} {
		if transit.Fits(three(), api.Transit{Star: star(0), Wires: l}) {
			t.Error(l, "fits")
		}
	}
	for _, b := range badTransits() {
		if transit.Fits(single(5), b) {
			t.Error(b, "fits")
		}
	}
	for _, x := range badTubes() {
		if transit.Fits(x, api.Transit{Star: star(0), Wires: make([]int, len(x.Wires))}) {
			t.Error("fits", x)
		}
	}
}

func TestCrossing(t *testing.T) {
	slow := func(slow int) api.Star { return api.Star{Name: "a", Slow: slow} }
	wide := api.Tube{Wires: []int{-100000, 100000}}
	for _, c := range []struct {
		x    api.Tube
		s    api.Star
		l    []int
		want int
	}{
		{single(0), slow(1000), []int{0}, 0}, {single(0), slow(7000), []int{api.Day - 1}, api.Day - 1},
		{three(), slow(2000), []int{80000, 100000, 120000}, 100000}, {three(), slow(2000), []int{-1, 100000, 120000}, 100000}, {three(), slow(2000), []int{80000, -1, -1}, 100000}, {three(), slow(2000), []int{-1, -1, 120000}, 100000},
		{three(), slow(1000), []int{5, 5, 5}, 5}, {three(), slow(1000), []int{5, 5, 6}, 5}, {three(), slow(1000), []int{5, 6, 6}, 5}, {three(), slow(1000), []int{6, 6, 6}, 6}, {three(), slow(1000), []int{5, -1, 6}, 5},
		{three(), slow(1000), []int{-1, -1, 0}, -10000}, {three(), slow(1001), []int{-1, -1, 0}, -10010},
		{api.Tube{Wires: []int{1}}, slow(1001), []int{10}, 8}, {api.Tube{Wires: []int{1}}, slow(1001), []int{0}, -2}, {api.Tube{Wires: []int{-1}}, slow(1001), []int{10}, 11}, {api.Tube{Wires: []int{1}}, slow(2000), []int{0}, -2},
		{api.Tube{Wires: []int{0, 1}}, slow(1000), []int{0, 0}, -1}, {api.Tube{Wires: []int{0, 2}}, slow(1000), []int{0, 0}, -1}, {api.Tube{Wires: []int{0, 3}}, slow(1000), []int{0, 0}, -2},
		{wide, slow(10000), []int{-1, 0}, -1000000}, {wide, slow(10000), []int{api.Day - 1, -1}, api.Day + 999999}, {wide, slow(10000), []int{0, api.Day - 1}, api.Day/2 - 1},
	} {
		if at, e := transit.Crossing(c.x, api.Transit{Star: c.s, Wires: c.l}); at != c.want || e != api.OK {
			t.Error(c, at, e)
		}
	}
}

func TestCrossingByTheLetter(t *testing.T) {
	r := random()
	all := 0
	for range 5000 {
		x := anyTube(r)
		one := anyTransit(r, x)
		mean, taken := rat(0, 1), 0
		for i, at := range one.Wires {
			if at != -1 {
				mean = sum(mean, less(rat(at, 1), rat(x.Wires[i]*one.Star.Slow, 1000)))
				taken++
			}
		}
		at, e := transit.Crossing(x, one)
		d, f := transit.Difference(x, one)
		if taken == 0 {
			all++
			if at != 0 || e != api.ErrNone || d != 0 || f != api.ErrNone {
				t.Fatal(x, one, at, e, d, f)
			}
			continue
		}
		want := floor(over(mean, rat(taken, 1)))
		if at != want || e != api.OK {
			t.Fatal(x, one, at, e, want)
		}
		if d < -43200000 || d > 43199999 || (one.Star.Ascension-want-d)%86400000 != 0 || f != api.OK {
			t.Fatal(x, one, d, f)
		}
	}
	if all < 100 {
		t.Error("hardly any was missed", all)
	}
}

func TestErrorsOfOneTransit(t *testing.T) {
	for _, call := range []func(api.Tube, api.Transit) (int, api.Errno){transit.Crossing, transit.Difference} {
		for _, b := range badTransits() {
			if n, e := call(single(5), b); n != 0 || e != api.ErrInvalid {
				t.Error(b, n, e)
			}
		}
		for _, x := range badTubes() {
			if n, e := call(x, api.Transit{Star: star(0), Wires: slices.Repeat([]int{-1}, len(x.Wires))}); n != 0 || e != api.ErrInvalid {
				t.Error(x, n, e)
			}
		}
		if n, e := call(single(5), missing()); n != 0 || e != api.ErrNone {
			t.Error("missed", n, e)
		}
		if n, e := call(three(), api.Transit{Star: star(0), Wires: []int{-1, -1, -1}}); n != 0 || e != api.ErrNone {
			t.Error("all missed", n, e)
		}
	}
}

func TestFolded(t *testing.T) {
	for d, want := range map[int]int{
		0: 0, 1: 1, -1: -1, 43199999: 43199999, 43200000: -43200000, 43200001: -43199999, -43200000: -43200000, -43200001: 43199999, 86399999: -1, 86400000: 0, 86400001: 1, -86399999: 1, -86400000: 0, -86400001: -1,
		129599999: 43199999, 129600000: -43200000, -129600000: -43200000, -129600001: 43199999, 1000000000000: 6400000, -1000000000000: -6400000, 999999999999: 6399999,
	} {
		if n, e := transit.Folded(d); n != want || e != api.OK {
			t.Error(d, n, e, want)
		}
	}
	for _, d := range []int{1000000000001, -1000000000001, math.MinInt, math.MaxInt, math.MinInt + 86400000} {
		if n, e := transit.Folded(d); n != 0 || e != api.ErrRange {
			t.Error(d, n, e)
		}
	}
	r := random()
	for range 10000 {
		d := r.IntN(2000000000001) - 1000000000000
		n, e := transit.Folded(d)
		if n < -43200000 || n > 43199999 || (d-n)%86400000 != 0 || e != api.OK {
			t.Fatal(d, n, e)
		}
	}
}

func TestDifference(t *testing.T) {
	for _, c := range []struct{ ascension, at, want int }{
		{100, 100, 0}, {100, 30, 70}, {30, 100, -70}, {10, api.Day - 10, 20}, {api.Day - 10, 10, -20}, {43199999, 0, 43199999}, {43200000, 0, -43200000}, {0, 43200000, -43200000}, {0, 43200001, 43199999}, {api.Day - 1, 0, -1}, {0, api.Day - 1, 1},
	} {
		s := star(0)
		s.Ascension = c.ascension
		if d, e := transit.Difference(single(0), api.Transit{Star: s, Wires: []int{c.at}}); d != c.want || e != api.OK {
			t.Error(c, d, e)
		}
	}
	// the crossing is beyond the day at both ends
	wide := api.Tube{Wires: []int{-100000, 100000}}
	s := api.Star{Name: "a", Ascension: 5, Slow: 10000}
	if d, e := transit.Difference(wide, api.Transit{Star: s, Wires: []int{-1, 0}}); d != 1000005 || e != api.OK {
		t.Error("before the day", d, e)
	}
	if d, e := transit.Difference(wide, api.Transit{Star: s, Wires: []int{api.Day - 1, -1}}); d != -999994 || e != api.OK {
		t.Error("behind the day", d, e)
	}
}

func TestWired(t *testing.T) {
	s := api.Star{Name: "a", Ascension: 3, Shift: 4, Slow: 1500}
	for _, c := range []struct {
		x    api.Tube
		at   int
		want []int // nil for ErrRange
	}{
		{three(), 100000, []int{85000, 100000, 115000}}, {single(5), 0, []int{0}}, {single(5), api.Day - 1, []int{api.Day - 1}}, {single(5), -1, nil}, {single(5), api.Day, nil},
		{api.Tube{Wires: []int{-3, -2, -1, 0, 1, 2, 3}}, 100, []int{95, 97, 98, 100, 101, 103, 104}},
		{three(), 15000, []int{0, 15000, 30000}}, {three(), 14999, nil}, {three(), api.Day - 15001, []int{api.Day - 30001, api.Day - 15001, api.Day - 1}}, {three(), api.Day - 15000, nil},
		{api.Tube{Wires: []int{-1}}, 2, []int{0}}, {api.Tube{Wires: []int{-1}}, 1, nil}, {api.Tube{Wires: []int{-1}}, api.Day + 1, []int{api.Day - 1}}, {api.Tube{Wires: []int{1}}, -1, []int{0}},
		// the time itself may be out of the day, if those at the wires are not
		{api.Tube{Wires: []int{1000, 2000}}, -1500, []int{0, 1500}}, {api.Tube{Wires: []int{1000, 2000}}, -1501, nil}, {api.Tube{Wires: []int{-2000, -1000}}, api.Day + 1499, []int{api.Day - 1501, api.Day - 1}}, {api.Tube{Wires: []int{-2000, -1000}}, api.Day + 1500, nil},
		{api.Tube{Wires: []int{100000}}, -150000, []int{0}}, {api.Tube{Wires: []int{-100000}}, api.Day + 149999, []int{api.Day - 1}},
		{api.Tube{Wires: []int{-100000}}, math.MinInt, nil}, {api.Tube{Wires: []int{100000}}, math.MaxInt, nil}, {api.Tube{Wires: []int{-100000}}, math.MaxInt, nil}, {api.Tube{Wires: []int{100000}}, math.MinInt, nil}, {three(), math.MaxInt - 15000, nil},
	} {
		got, e := transit.Wired(c.x, s, c.at)
		if c.want == nil && (e != api.ErrRange || got.Wires != nil || got.Star != (api.Star{})) || c.want != nil && (e != api.OK || !slices.Equal(got.Wires, c.want) || got.Star != s) {
			t.Error(c, got, e)
		}
	}
	for _, x := range badTubes() {
		if got, e := transit.Wired(x, s, math.MinInt); e != api.ErrInvalid || got.Wires != nil || got.Star != (api.Star{}) {
			t.Error(x, got, e)
		}
	}
	for _, b := range badStars() {
		if got, e := transit.Wired(three(), b, math.MaxInt); e != api.ErrInvalid || got.Wires != nil || got.Star != (api.Star{}) {
			t.Error(b, got, e)
		}
	}
}

// The crossing of Wired's transit is the time, or one millisecond less.
func TestWiredAndBack(t *testing.T) {
	r := random()
	met := map[int]int{}
	for range 10000 {
		x, s, at := anyTube(r), anyStar(r), r.IntN(api.Day)
		one, e := transit.Wired(x, s, at)
		within := true
		for i, wire := range x.Wires {
			want := floor(sum(rat(at, 1), rat(wire*s.Slow, 1000)))
			within = within && want >= 0 && want < api.Day
			if e == api.OK && one.Wires[i] != want {
				t.Fatal(x, s, at, one)
			}
		}
		if within != (e == api.OK) || !within && e != api.ErrRange {
			t.Fatal(x, s, at, e)
		}
		if e != api.OK {
			continue
		}
		again, e := transit.Crossing(x, one)
		if e != api.OK || again != at && again != at-1 {
			t.Fatal(x, s, at, again, e)
		}
		met[at-again]++
		with := less(rat(0, 1), rat(0, 1))
		for i, wire := range x.Wires { // without the rounding at the wires nothing would be lost
			with = sum(with, less(rat(one.Wires[i], 1), rat(wire*s.Slow, 1000)))
		}
		if again != floor(over(with, rat(len(x.Wires), 1))) {
			t.Fatal(x, s, at, again)
		}
	}
	if met[0] < 1000 || met[1] < 1000 {
		t.Error("hardly tried", met)
	}
}

func TestMoved(t *testing.T) {
	s, other := star(7), api.Star{Name: "deneb", Ascension: 1, Shift: -5, Slow: 1400}
	l := []api.Transit{{Star: s, Wires: []int{10, -1, 30}}, {Star: other, Wires: []int{5}}, {Star: s}, {Star: s, Wires: []int{-1, -1}}, {Star: other, Wires: []int{9, 8, 7, 6, 5, 4, 3}}}
	for by, want := range map[int][][]int{
		0:            {{10, -1, 30}, {5}, {}, {-1, -1}, {9, 8, 7, 6, 5, 4, 3}},
		1:            {{11, -1, 31}, {6}, {}, {-1, -1}, {10, 9, 8, 7, 6, 5, 4}},
		-3:           {{7, -1, 27}, {2}, {}, {-1, -1}, {6, 5, 4, 3, 2, 1, 0}},
		api.Day - 31: {{api.Day - 21, -1, api.Day - 1}, {api.Day - 26}, {}, {-1, -1}, {api.Day - 22, api.Day - 23, api.Day - 24, api.Day - 25, api.Day - 26, api.Day - 27, api.Day - 28}},
	} {
		moved, e := transit.Moved(l, by)
		if e != api.OK || len(moved) != len(l) {
			t.Error(by, moved, e)
			continue
		}
		for i, m := range moved {
			if m.Star != l[i].Star || !slices.Equal(m.Wires, want[i]) {
				t.Error(by, i, m)
			}
		}
	}
	for _, by := range []int{-4, -5, -31, -api.Day, api.Day - 30, api.Day - 1, api.Day} {
		if moved, e := transit.Moved(l, by); e != api.ErrLimit || len(moved) != 0 {
			t.Error(by, moved, e)
		}
	}
	for _, by := range []int{-api.Day - 1, api.Day + 1, math.MinInt, math.MaxInt} {
		if moved, e := transit.Moved(l, by); e != api.ErrRange || len(moved) != 0 {
			t.Error(by, moved, e)
		}
	}
}

func TestMovedAtTheEndsOfTheDay(t *testing.T) {
	for _, c := range []struct {
		at, by, want int
		e            api.Errno
	}{
		{0, api.Day - 1, api.Day - 1, api.OK}, {api.Day - 1, 1 - api.Day, 0, api.OK}, {0, api.Day, 0, api.ErrLimit}, {api.Day - 1, -api.Day, 0, api.ErrLimit}, {0, -1, 0, api.ErrLimit}, {api.Day - 1, 1, 0, api.ErrLimit},
		{-1, api.Day, -1, api.OK}, {-1, -api.Day, -1, api.OK}, {-1, 1, -1, api.OK}, // a miss stays a miss
	} {
		moved, e := transit.Moved([]api.Transit{{Star: star(0), Wires: []int{c.at}}}, c.by)
		if e != c.e || e == api.OK && moved[0].Wires[0] != c.want || e != api.OK && len(moved) != 0 {
			t.Error(c, moved, e)
		}
	}
}

func TestMovedErrors(t *testing.T) {
	good := api.Transit{Star: star(0), Wires: []int{5}}
	bad := [][]api.Transit{nil, {}, slices.Repeat([]api.Transit{good}, 13), {{Star: star(0), Wires: make([]int, 8)}}, {{Star: star(0), Wires: slices.Repeat([]int{-1}, 8)}}}
	for _, at := range []int{-2, api.Day, math.MinInt, math.MaxInt} {
		bad = append(bad, []api.Transit{{Star: star(0), Wires: []int{at}}}, []api.Transit{good, {Star: star(0), Wires: []int{7, at}}})
	}
	for _, s := range badStars() {
		bad = append(bad, []api.Transit{{Star: s, Wires: []int{5}}}, []api.Transit{good, {Star: s}})
	}
	for _, l := range bad {
		for _, by := range []int{0, 5, api.Day, api.Day + 1, math.MinInt} {
			if moved, e := transit.Moved(l, by); e != api.ErrInvalid || len(moved) != 0 {
				t.Error(l, by, moved, e)
			}
		}
	}
	if moved, e := transit.Moved(slices.Repeat([]api.Transit{good}, 12), 5); e != api.OK || len(moved) != 12 || moved[11].Wires[0] != 10 {
		t.Error(moved, e)
	}
}

// A transit all of whose times are moved has its crossing moved.
func TestMovedCrossing(t *testing.T) {
	r := random()
	done := 0
	for range 5000 {
		x := anyTube(r)
		one := anyTransit(r, x)
		by := r.IntN(api.Day/4) - api.Day/8
		before, e := transit.Crossing(x, one)
		moved, f := transit.Moved([]api.Transit{one}, by)
		if e != api.OK || f != api.OK {
			continue
		}
		if after, e := transit.Crossing(x, moved[0]); after != before+by || e != api.OK {
			t.Fatal(x, one, by, before, after, e)
		}
		done++
	}
	if done < 1000 {
		t.Error("hardly tried", done)
	}
}
