package transit_test

import (
	"math/big"
	"slices"
	"testing"

	"noongun/api"
	"noongun/transit"
)

func span(lo, loBy, hi, hiBy int) api.Reach {
	return api.Reach{Lo: api.Ratio{N: lo, D: loBy}, Hi: api.Ratio{N: hi, D: hiBy}}
}

func TestReaches(t *testing.T) {
	for _, c := range []struct {
		width          int
		l              []api.Transit
		clock          api.Reach
		clockError     api.Errno
		azimuth        api.Reach
		azimuthError   api.Errno
		tightest       int
		tightestsError api.Errno
	}{
		// one transit
		{10, list([2]int{0, 500}), span(490, 1, 510, 1), api.OK, api.Reach{}, api.ErrNone, 0, api.OK},
		{0, list([2]int{0, -500}), span(-500, 1, -500, 1), api.OK, api.Reach{}, api.ErrNone, 0, api.OK},
		{10, list([2]int{5, 500}), api.Reach{}, api.ErrNone, api.Reach{}, api.ErrNone, 0, api.OK},
		// one shift for all: 0, and another one
		{10, list([2]int{0, 500}, [2]int{0, 520}), span(510, 1, 510, 1), api.OK, api.Reach{}, api.ErrNone, 10, api.OK},
		{10, list([2]int{0, 500}, [2]int{0, 513}, [2]int{0, 507}), span(503, 1, 510, 1), api.OK, api.Reach{}, api.ErrNone, 7, api.OK},
		{10, list([2]int{0, 500}, [2]int{0, 521}), api.Reach{}, api.ErrState, api.Reach{}, api.ErrState, 11, api.OK},
		{10, list([2]int{-7, 500}, [2]int{-7, 520}), api.Reach{}, api.ErrNone, api.Reach{}, api.ErrNone, 10, api.OK},
		{10, list([2]int{-7, 520}, [2]int{-7, 499}), api.Reach{}, api.ErrState, api.Reach{}, api.ErrState, 11, api.OK},
		// several shifts
		{10, list([2]int{0, 500}, [2]int{1000, 800}), span(490, 1, 510, 1), api.OK, span(280, 1, 320, 1), api.OK, 0, api.OK},
		{10, list([2]int{1000, 800}, [2]int{0, 500}), span(490, 1, 510, 1), api.OK, span(280, 1, 320, 1), api.OK, 0, api.OK},
		{0, list([2]int{1000, 800}, [2]int{-1000, 500}), span(650, 1, 650, 1), api.OK, span(150, 1, 150, 1), api.OK, 0, api.OK},
		{1, list([2]int{1000, 800}, [2]int{-1000, 500}), span(649, 1, 651, 1), api.OK, span(149, 1, 151, 1), api.OK, 0, api.OK},
		{1, list([2]int{1000, 800}, [2]int{2000, 500}), span(1097, 1, 1103, 1), api.OK, span(-302, 1, -298, 1), api.OK, 0, api.OK},
		{1, list([2]int{-1000, 800}, [2]int{-2000, 500}), span(1097, 1, 1103, 1), api.OK, span(298, 1, 302, 1), api.OK, 0, api.OK},
		{1, list([2]int{1, 0}, [2]int{3, 1}), span(-5, 2, 3, 2), api.OK, span(-500, 1, 1500, 1), api.OK, 0, api.OK},
		{0, list([2]int{1, 0}, [2]int{4, 1}), span(-1, 3, -1, 3), api.OK, span(1000, 3, 1000, 3), api.OK, 0, api.OK},
		{0, list([2]int{0, 0}, [2]int{1000, 10}, [2]int{2000, 20}), span(0, 1, 0, 1), api.OK, span(10, 1, 10, 1), api.OK, 0, api.OK},
		{0, list([2]int{0, 0}, [2]int{1000, 10}, [2]int{2000, 21}), api.Reach{}, api.ErrState, api.Reach{}, api.ErrState, 1, api.OK},
		{1, list([2]int{0, 0}, [2]int{1000, 10}, [2]int{2000, 24}), span(-1, 1, -1, 1), api.OK, span(12, 1, 12, 1), api.OK, 1, api.OK},
		{1, list([2]int{0, 0}, [2]int{1000, 10}, [2]int{2000, 25}), api.Reach{}, api.ErrState, api.Reach{}, api.ErrState, 2, api.OK},
		// two of one shift do not agree, whatever the third says
		{10, list([2]int{5, 0}, [2]int{7, 0}, [2]int{5, 21}), api.Reach{}, api.ErrState, api.Reach{}, api.ErrState, 11, api.OK},
		// the azimuth has whole ends, the clock error has not, and the other way round
		{0, list([2]int{1, 0}, [2]int{1001, 1}), span(-1, 1000, -1, 1000), api.OK, span(1, 1, 1, 1), api.OK, 0, api.OK},
		{0, list([2]int{0, 7}, [2]int{7, 8}), span(7, 1, 7, 1), api.OK, span(1000, 7, 1000, 7), api.OK, 0, api.OK},
	} {
		if r, e := transit.Reach(single(c.width), c.l); r != c.clock || e != c.clockError {
			t.Error("Reach", c.width, c.l, r, e)
		}
		if r, e := transit.Azimuth(single(c.width), c.l); r != c.azimuth || e != c.azimuthError {
			t.Error("Azimuth", c.width, c.l, r, e)
		}
		if yes, e := transit.Agree(single(c.width), c.l); yes != (c.clockError != api.ErrState) || e != api.OK {
			t.Error("Agree", c.width, c.l, yes, e)
		}
		for _, other := range []int{0, c.width, 10000} { // the tube's own error does not matter
			if n, e := transit.Tightest(single(other), c.l); n != c.tightest || e != c.tightestsError {
				t.Error("Tightest", other, c.l, n, e)
			}
		}
	}
}

// A reach has valid ends, or is ErrLimit: no fraction on the way to it needs to be valid.
func TestReachesWithoutValidForm(t *testing.T) {
	far := list([2]int{1, 40000000}, [2]int{10000, 39999999}) // the clock error is 40,000,000 + 1 / 9,999
	if r, e := transit.Reach(single(0), far); r != (api.Reach{}) || e != api.ErrLimit {
		t.Error("Reach", r, e)
	}
	if r, e := transit.Azimuth(single(0), far); r != span(-1000, 9999, -1000, 9999) || e != api.OK {
		t.Error("Azimuth", r, e)
	}
	steep := list([2]int{0, 5}, [2]int{7, 30000006}) // the azimuth is 30,000,001,000 / 7
	if r, e := transit.Reach(single(0), steep); r != span(5, 1, 5, 1) || e != api.OK {
		t.Error("Reach", r, e)
	}
	if r, e := transit.Azimuth(single(0), steep); r != (api.Reach{}) || e != api.ErrLimit {
		t.Error("Azimuth", r, e)
	}
	// one transit more bounds the clock error alone: then the ends that had no valid form are not those of the reach
	if r, e := transit.Reach(single(10), append(far, differing(0, 40000000))); r != span(39999990, 1, 40000010, 1) || e != api.OK {
		t.Error("Reach", r, e)
	}
	// just one end has no valid form
	for _, by := range []int{-1, 1} {
		half := list([2]int{0, by * 500000000 / 1000}, [2]int{1, by * 1500000})
		if r, e := transit.Azimuth(single(1), half); r != (api.Reach{}) || e != api.ErrLimit {
			t.Error("Azimuth", r, e)
		}
		if r, e := transit.Azimuth(single(0), half); r != span(by*1000000000, 1, by*1000000000, 1) || e != api.OK {
			t.Error("Azimuth", r, e)
		}
	}
}

func TestTightest(t *testing.T) {
	for apart, want := range map[int]int{0: 0, 1: 1, 2: 1, 3: 2, 1999999: 1000000, 2000000: 1000000, 2000001: -1, 2000002: -1, 43000000: -1} {
		for _, shift := range []int{0, 9} {
			n, e := transit.Tightest(single(0), list([2]int{shift, 0}, [2]int{shift, apart}))
			if want >= 0 && (n != want || e != api.OK) || want < 0 && (n != 0 || e != api.ErrRange) {
				t.Error(apart, n, e)
			}
		}
	}
	// with three shifts: 4 * width is what the middle one lacks
	for lack, want := range map[int]int{0: 0, 1: 1, 4: 1, 5: 2, 40: 10, 4000000: 1000000, 4000001: -1} {
		n, e := transit.Tightest(single(3), list([2]int{0, 0}, [2]int{1000, 0}, [2]int{2000, lack}))
		if want >= 0 && (n != want || e != api.OK) || want < 0 && (n != 0 || e != api.ErrRange) {
			t.Error(lack, n, e)
		}
	}
}

// Reach, Azimuth, Agree and Tightest are as the corners of the polygon of all truths say.
func TestReachesByCorners(t *testing.T) {
	r := random()
	met := map[api.Errno]int{}
	for range 4000 {
		width := []int{0, 1, 5, 100, 10000}[r.IntN(5)]
		l := anyList(r, 1+r.IntN(6), max(width, 3))
		checkReaches(t, l, width, met)
	}
	if met[api.OK] < 100 || met[api.ErrState] < 100 || met[api.ErrNone] < 100 {
		t.Error("hardly tried", met)
	}
}

func TestReachesAtTheLimits(t *testing.T) {
	r := random()
	met := map[api.Errno]int{}
	numbers := []int{-43200000, -43199999, 43199999, 43190000, 0, 7}
	for range 1500 {
		var l []api.Transit
		for range 2 + r.IntN(4) {
			l = append(l, differing([]int{-10000, -9999, 0, 1, 9999, 10000}[r.IntN(6)], numbers[r.IntN(len(numbers))]))
		}
		checkReaches(t, l, 10000*r.IntN(2), met)
	}
	if met[api.OK] < 100 || met[api.ErrState] < 100 || met[api.ErrLimit] < 100 {
		t.Error("hardly tried", met)
	}
}

func checkReaches(t *testing.T, l []api.Transit, width int, met map[api.Errno]int) {
	t.Helper()
	s := statementsOf(l, width)
	want, wantError := s.reach()
	if got, e := transit.Reach(single(width), l); got != want || e != wantError {
		t.Fatal("Reach", width, l, got, e, want, wantError)
	}
	met[wantError]++
	want, wantError = s.azimuth()
	if got, e := transit.Azimuth(single(width), l); got != want || e != wantError {
		t.Fatal("Azimuth", width, l, got, e, want, wantError)
	}
	if yes, e := transit.Agree(single(width), l); yes != s.agree() || e != api.OK {
		t.Fatal("Agree", width, l, yes, e)
	}
	least, e := transit.Tightest(single(width), l)
	if e == api.ErrRange {
		least = 1000001
	} else if e != api.OK {
		t.Fatal("Tightest", width, l, least, e)
	}
	s.width = least
	if !s.agree() && least <= 1000000 {
		t.Fatal("Tightest", l, least)
	}
	s.width = least - 1
	if least > 0 && s.agree() {
		t.Fatal("Tightest", l, least)
	}
}

// azimuthsAt are the azimuths that are a truth with a clock error: from lo to hi, if none is not set. It must not be asked where all shifts are 0.
func (s statements) azimuthsAt(clock *big.Rat) (lo, hi *big.Rat, none bool) {
	for i, d := range s.differences {
		rest := less(rat(d, 1), clock)
		low, high := less(rest, rat(s.width, 1)), sum(rest, rat(s.width, 1))
		if s.shifts[i] == 0 {
			none = none || low.Sign() > 0 || high.Sign() < 0
			continue
		}
		a, b := over(low, rat(s.shifts[i], 1000)), over(high, rat(s.shifts[i], 1000))
		if a.Cmp(b) > 0 {
			a, b = b, a
		}
		if lo == nil || a.Cmp(lo) > 0 {
			lo = a
		}
		if hi == nil || b.Cmp(hi) < 0 {
			hi = b
		}
	}
	return lo, hi, none || lo.Cmp(hi) > 0
}

// The ends of Reach suit with some azimuth, and nothing beyond does.
func TestEndsOfReachSuit(t *testing.T) {
	r := random()
	done := 0
	for range 2000 {
		width := 1 + r.IntN(50)
		l := anyList(r, 2+r.IntN(4), width)
		reach, e := transit.Reach(single(width), l)
		s := statementsOf(l, width)
		if e != api.OK || s.parallel() {
			continue
		}
		small := rat(1, 1000000000)
		for _, end := range []struct {
			at     api.Ratio
			beyond *big.Rat
		}{{reach.Lo, less(ratioOf(reach.Lo), small)}, {reach.Hi, sum(ratioOf(reach.Hi), small)}} {
			lo, hi, none := s.azimuthsAt(ratioOf(end.at))
			if none {
				t.Fatal("an end does not suit", width, l, reach)
			}
			if _, _, none := s.azimuthsAt(end.beyond); !none {
				t.Fatal("something beyond suits", width, l, reach)
			}
			for _, at := range []*big.Rat{lo, hi} {
				a, valid := limited(at)
				if yes, e := transit.Suits(single(width), l, end.at, a); valid && (!yes || e != api.OK) {
					t.Fatal("Suits", width, l, end.at, a, yes, e)
				}
			}
			done++
		}
	}
	if done < 500 {
		t.Error("hardly tried", done)
	}
}

// within reports whether q is in a reach.
func within(r api.Reach, q *big.Rat) bool {
	return q.Cmp(ratioOf(r.Lo)) >= 0 && q.Cmp(ratioOf(r.Hi)) <= 0
}

// A further transit makes no reach wider.
func TestFurtherTransits(t *testing.T) {
	r := random()
	narrower := 0
	for range 2000 {
		width := 1 + r.IntN(50)
		l := anyList(r, 2+r.IntN(4), width)
		for _, call := range []func(api.Tube, []api.Transit) (api.Reach, api.Errno){transit.Reach, transit.Azimuth} {
			before, e := call(single(width), l[1:])
			after, f := call(single(width), l)
			if e == api.ErrState && f != api.ErrState {
				t.Fatal("agree with one more", width, l)
			}
			if e == api.OK && f == api.ErrNone {
				t.Fatal("unbounded with one more", width, l)
			}
			if e != api.OK || f != api.OK {
				continue
			}
			if !within(before, ratioOf(after.Lo)) || !within(before, ratioOf(after.Hi)) {
				t.Fatal("wider", width, l, before, after)
			}
			if before != after {
				narrower++
			}
		}
	}
	if narrower < 200 {
		t.Error("hardly tried", narrower)
	}
}

func TestSuits(t *testing.T) {
	two := list([2]int{0, 500}, [2]int{1000, 800})
	one := func(n, d int) api.Ratio { return api.Ratio{N: n, D: d} }
	for _, c := range []struct {
		width int
		l     []api.Transit
		e, a  api.Ratio
		want  bool
	}{
		{10, two, one(500, 1), one(300, 1), true}, {10, two, one(490, 1), one(300, 1), true}, {10, two, one(510, 1), one(300, 1), true}, {10, two, one(490, 1), one(320, 1), true}, {10, two, one(510, 1), one(280, 1), true},
		{10, two, one(489, 1), one(300, 1), false}, {10, two, one(511, 1), one(300, 1), false}, {10, two, one(490, 1), one(321, 1), false}, {10, two, one(490, 1), one(299, 1), false}, {10, two, one(510, 1), one(279, 1), false}, {10, two, one(510, 1), one(301, 1), false},
		{10, two, one(489999999, 1000000), one(300, 1), false}, {10, two, one(500, 1), one(310, 1), true}, {10, two, one(500, 1), one(310000001, 1000000), false}, {10, two, one(500, 1), one(289999999, 1000000), false},
		{10, two, one(0, 1), one(0, 1), false}, {10, two, one(-500, 1), one(-300, 1), false},
		{0, list([2]int{-3, -7}), one(-7, 1), one(0, 1), true}, {0, list([2]int{-3, -7}), one(-4, 1), one(1000, 1), true}, {0, list([2]int{-3, -7}), one(-10, 1), one(-1000, 1), true}, {0, list([2]int{-3, -7}), one(-7, 1), one(1, 1000000000), false},
		{0, list([2]int{-3, -7}), one(-20, 3), one(1000, 9), true},
		// 43,199,999 - 9,999 = 43,190,000, and a billionth apart from it
		{9999, list([2]int{0, 43199999}), one(43190000, 1), one(0, 1), true}, {0, list([2]int{0, 1}), one(999999999, 1000000000), one(0, 1), false}, {0, list([2]int{0, 1}), one(1000000000, 999999999), one(0, 1), false},
		{1, list([2]int{0, 1}), one(1, 1000000000), one(0, 1), true}, {1, list([2]int{0, 1}), one(-1, 1000000000), one(0, 1), false}, {1, list([2]int{0, -1}), one(1, 1000000000), one(0, 1), false}, {1, list([2]int{0, -1}), one(-1, 1000000000), one(0, 1), true},
		// products beyond 64 bits, which cancel each other out
		{0, list([2]int{10000, 0}), one(-1000000000, 1), one(100000000, 1), true}, {0, list([2]int{10000, 0}), one(-999999999, 1), one(100000000, 1), false}, {0, list([2]int{1000, 0}), one(-999999999, 1000000000), one(999999999, 1000000000), true}, {0, list([2]int{1000, 0}), one(-999999999, 1000000000), one(999999998, 999999999), false},
		{0, list([2]int{-1000, 43199999}), one(1, 999999999), one(-1000000000, 1), false}, {10000, list([2]int{-1000, -43200000}), one(-1000000000, 1), one(-956800000, 1), true}, {10000, list([2]int{-1000, -43200000}), one(-1000000000, 1), one(-956790000, 1), true}, {10000, list([2]int{-1000, -43200000}), one(-1000000000, 1), one(-956789999, 1), false},
	} {
		if yes, e := transit.Suits(single(c.width), c.l, c.e, c.a); yes != c.want || e != api.OK {
			t.Error(c, yes, e)
		}
	}
}

// Suits is as the chapter has it, and what suits lies in the reaches.
func TestSuitsByTheLetter(t *testing.T) {
	r := random()
	met := map[bool]int{}
	for range 3000 {
		width := 1 + r.IntN(200)
		l := anyList(r, 1+r.IntN(4), width)
		s := statementsOf(l, width)
		reach, e := transit.Reach(single(width), l)
		azimuth, f := transit.Azimuth(single(width), l)
		truths := s.corners()
		for range 5 {
			truths = append(truths, truth{rat(r.IntN(2001)-1000, 1+r.IntN(3)), rat(r.IntN(2001)-1000, 1+r.IntN(3))})
		}
		for _, x := range truths {
			a, valid := limited(x.clock)
			b, alsoValid := limited(x.azimuth)
			if !valid || !alsoValid {
				continue
			}
			yes, none := transit.Suits(single(width), l, a, b)
			met[yes]++
			if yes != s.suit(x) || none != api.OK {
				t.Fatal(width, l, a, b, yes, none)
			}
			if yes && (e == api.OK && !within(reach, x.clock) || f == api.OK && !within(azimuth, x.azimuth) || e == api.ErrState || f == api.ErrState) {
				t.Fatal("suits, but beyond the reach", width, l, a, b, reach, azimuth)
			}
		}
	}
	if met[true] < 1000 || met[false] < 1000 {
		t.Error("hardly tried", met)
	}
}

// Fractions with parts all over, next to the border.
func TestSuitsNextToTheBorder(t *testing.T) {
	r := random()
	met := map[bool]int{}
	for range 20000 {
		shift, d, width := r.IntN(20001)-10000, r.IntN(86400000)-43200000, r.IntN(10001)
		if r.IntN(4) == 0 {
			d = r.IntN(21) - 10
			width = r.IntN(3)
		}
		a, _ := limited(rat(r.IntN(2001)-1000, 1+r.IntN(1000)))
		clock := less(rat(d+width*(r.IntN(3)-1), 1), times(rat(shift, 1000), ratioOf(a)))
		clock = sum(clock, rat(r.IntN(3)-1, 1+r.IntN(1000)))
		e, valid := limited(clock)
		if !valid {
			continue
		}
		s := statements{[]int{shift}, []int{d}, width}
		yes, none := transit.Suits(single(width), list([2]int{shift, d}), e, a)
		met[yes]++
		if yes != s.suit(truth{clock, ratioOf(a)}) || none != api.OK {
			t.Fatal(s, e, a, yes, none)
		}
	}
	if met[true] < 1000 || met[false] < 1000 {
		t.Error("hardly tried", met)
	}
}

// calls are all functions of a tube and a list, by what they return.
func calls(x api.Tube, l []api.Transit, e, a api.Ratio) []outcome {
	return []outcome{
		with(transit.Agree(x, l)), with(transit.Reach(x, l)), with(transit.Azimuth(x, l)), with(transit.Suits(x, l, e, a)), listed(transit.Least(x, l)), listed(transit.Most(x, l)), with(transit.Odd(x, l)), with(transit.Tightest(x, l)),
	}
}

func checkAll(t *testing.T, x api.Tube, l []api.Transit, want api.Errno) {
	t.Helper()
	for i, o := range calls(x, l, api.Ratio{N: 1, D: 2}, api.Ratio{N: 3, D: 1}) {
		if o.e != want || !o.zero {
			t.Error(i, x, l, o.text, want)
		}
	}
}

func TestErrorsOfLists(t *testing.T) {
	good := differing(5, 500)
	contrary := list([2]int{5, 0}, [2]int{5, 5000})
	checkAll(t, single(5), nil, api.ErrInvalid)
	checkAll(t, single(5), []api.Transit{}, api.ErrInvalid)
	checkAll(t, single(5), slices.Repeat([]api.Transit{good}, 13), api.ErrInvalid)
	checkAll(t, single(5), slices.Repeat([]api.Transit{missing()}, 13), api.ErrInvalid)
	for _, b := range badTransits() {
		for _, l := range [][]api.Transit{{b}, {good, b}, {b, good}, {missing(), b}, {b, missing()}, append(slices.Clone(contrary), b)} {
			checkAll(t, single(5), l, api.ErrInvalid)
		}
	}
	for _, x := range badTubes() {
		checkAll(t, x, []api.Transit{{Star: star(0), Wires: slices.Repeat([]int{-1}, len(x.Wires))}}, api.ErrInvalid)
		checkAll(t, x, nil, api.ErrInvalid)
	}
	for _, l := range [][]api.Transit{{missing()}, {good, missing()}, {missing(), good}, append(slices.Clone(contrary), missing()), append([]api.Transit{missing()}, contrary...)} {
		checkAll(t, single(5), l, api.ErrNone)
	}
}

func TestErrorsOfSuits(t *testing.T) {
	half, good := api.Ratio{N: 1, D: 2}, list([2]int{0, 0})
	for _, bad := range badRatios {
		for _, l := range [][]api.Transit{good, {missing()}, nil, list([2]int{5, 0}, [2]int{5, 5000})} {
			for _, pair := range [][2]api.Ratio{{bad, half}, {half, bad}, {bad, bad}} {
				if yes, e := transit.Suits(single(5), l, pair[0], pair[1]); yes || e != api.ErrInvalid {
					t.Error(l, pair, yes, e)
				}
			}
		}
	}
	if yes, e := transit.Suits(single(5), good, half, half); !yes || e != api.OK {
		t.Error(yes, e)
	}
	if yes, e := transit.Suits(single(5), list([2]int{5, 0}, [2]int{5, 5000}), half, half); yes || e != api.OK { // such transits have no truth, but that is no error here
		t.Error(yes, e)
	}
}

// Tubes of several wires, with misses: what is said depends on the crossings alone.
func TestSeveralWires(t *testing.T) {
	r := random()
	done := 0
	for range 2000 {
		x := anyTube(r)
		var many, one []api.Transit
		for _, plain := range anyList(r, 1+r.IntN(5), 100) {
			const noon = api.Day / 2
			plain.Star.Ascension += noon
			wired, e := transit.Wired(x, api.Star{Name: "b", Ascension: plain.Star.Ascension, Shift: plain.Star.Shift, Slow: 1000 + r.IntN(9001)}, plain.Wires[0]+noon)
			if e != api.OK {
				t.Fatal(x, plain, e)
			}
			wired.Wires[r.IntN(len(wired.Wires))] = -1
			crossing, e := transit.Crossing(x, wired)
			if e == api.OK {
				plain.Wires[0] = crossing
				many, one = append(many, wired), append(one, plain)
			}
		}
		if len(many) == 0 {
			continue
		}
		done++
		of, want := calls(x, many, api.Ratio{N: 1, D: 1}, api.Ratio{N: 1, D: 1}), calls(single(x.Error), one, api.Ratio{N: 1, D: 1}, api.Ratio{N: 1, D: 1})
		if !slices.Equal(of, want) {
			t.Fatal(x, many, of, want)
		}
	}
	if done < 300 {
		t.Error("hardly tried", done)
	}
}
