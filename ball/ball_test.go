package ball_test

import (
	"math"
	"slices"
	"testing"

	"noongun/api"
	"noongun/ball"
)

func TestValidMast(t *testing.T) {
	for _, x := range masts() {
		if !ball.ValidMast(x) {
			t.Error(x)
		}
	}
	for _, x := range badMasts() {
		if ball.ValidMast(x) {
			t.Error(x, "is valid")
		}
	}
}

// validMast is the chapter's sentence by the letter; its sum is asked last, so that it can't overflow.
func validMast(x api.Mast) bool {
	return 0 <= x.Noon && x.Noon <= 86399999 &&
		1000 <= x.Full && x.Full < x.Half && x.Half <= 3600000 &&
		x.Half <= x.Noon &&
		0 <= x.Late && x.Late <= 1000 &&
		x.Half <= x.Again && x.Again <= 7200000 &&
		0 <= x.Wind && x.Wind <= 1000 &&
		x.Noon+x.Again < 86400000
}

// Each number of each mast becomes each number next to a limit.
func TestMastsNextToTheLimits(t *testing.T) {
	found := map[bool]int{}
	for _, x := range masts() {
		numbers := append([]int{x.Noon, x.Half, x.Full, x.Late, x.Again, x.Wind, x.Half - 1, x.Half + 1, x.Full - 1, x.Full + 1, x.Noon - 1, x.Noon + 1, x.Again + 1, x.Again - 1, api.Day - x.Noon, api.Day - 1 - x.Noon, api.Day - x.Again, api.Day - 1 - x.Again}, extremes...)
		for _, n := range numbers {
			for field := range 6 {
				y := x
				*[]*int{&y.Noon, &y.Half, &y.Full, &y.Late, &y.Again, &y.Wind}[field] = n
				want := validMast(y)
				found[want]++
				if ball.ValidMast(y) != want {
					t.Error(y, "not", want)
				}
			}
		}
	}
	if found[true] < 100 || found[false] < 100 {
		t.Error("hardly tried", found)
	}
}

func TestPlan(t *testing.T) {
	l, e := ball.Plan(mast())
	if !slices.Equal(l, []api.Event{{At: 42900000, Kind: api.EHalf}, {At: 43080000, Kind: api.EFull}, {At: 43200000, Kind: api.EDrop}}) || e != api.OK {
		t.Error("Plan", l, e)
	}
	l, e = ball.Second(mast())
	if !slices.Equal(l, []api.Event{
		{At: 42900000, Kind: api.EHalf}, {At: 43080000, Kind: api.EFull}, {At: 43200000, Kind: api.EStuck}, {At: 43200000, Kind: api.EFlag},
		{At: 46500000, Kind: api.EHalf}, {At: 46680000, Kind: api.EFull}, {At: 46800000, Kind: api.EDrop},
	}) || e != api.OK {
		t.Error("Second", l, e)
	}
	for _, x := range badMasts() {
		if l, e := ball.Plan(x); len(l) != 0 || e != api.ErrInvalid {
			t.Error("Plan", x, l, e)
		}
		if l, e := ball.Second(x); len(l) != 0 || e != api.ErrInvalid {
			t.Error("Second", x, l, e)
		}
	}
}

// P4.2
func TestPlansAreGood(t *testing.T) {
	r := random()
	all := masts()
	for range 500 {
		all = append(all, anyMast(r))
	}
	for _, x := range all {
		for _, c := range []struct {
			plan    func(api.Mast) ([]api.Event, api.Errno)
			verdict int
			last    api.Ball
		}{
			{ball.Plan, api.VGood, api.Ball{At: x.Noon}}, {ball.Second, api.VAgain, api.Ball{At: x.Noon + x.Again, Flag: true}},
		} {
			l, e := c.plan(x)
			v, f := ball.Verdict(x, l)
			off, g := ball.Off(x, l)
			if e != api.OK || f != api.OK || g != api.OK || v != c.verdict || off != 0 {
				t.Error(x, l, v, off, e, f, g)
			}
			if s, n, e := ball.Run(x, l); s != c.last || n != len(l) || e != api.OK {
				t.Error(x, l, s, n, e)
			}
		}
	}
}

func TestExample(t *testing.T) {
	raised := []api.Event{{At: 42900000, Kind: api.EHalf}, {At: 43080000, Kind: api.EFull}}
	late := append(slices.Clone(raised), api.Event{At: 43200201, Kind: api.EDrop})
	if v, e := ball.Verdict(mast(), late); v != api.VFalse || e != api.OK {
		t.Error("without a flag", v, e)
	}
	if off, e := ball.Off(mast(), late); off != 201 || e != api.OK {
		t.Error("Off", off, e)
	}
	if v, e := ball.Verdict(mast(), append(slices.Clone(late), api.Event{At: 43200201, Kind: api.EFlag})); v != api.VWrong || e != api.OK {
		t.Error("with a flag", v, e)
	}
	if lag, e := ball.Lag([]api.Relay{{Lag: 20, Spread: 5}, {Lag: 35, Spread: 10}}); lag != (api.Span{Lo: 40, Hi: 70}) || e != api.OK {
		t.Error("Lag", lag, e)
	}
}

func TestPlacesAndKinds(t *testing.T) {
	x := mast()
	s := api.Ball{}
	for _, c := range []struct{ at, kind, place int }{
		{42900000, api.EHalf, api.BHalf}, {43080000, api.EFull, api.BFull}, {43200000, api.EStuck, api.BStuck}, {43200000, api.EFlag, api.BDown},
		{46500000, api.EHalf, api.BHalf}, {46680000, api.EFull, api.BFull}, {46800000, api.EDrop, api.BDown},
	} {
		var e api.Errno
		s, e = ball.Next(x, s, api.Event{At: c.at, Kind: c.kind})
		if s.Place != c.place || s.At != c.at || e != api.OK {
			t.Error(c, s, e)
		}
	}
	if !s.Flag || s.Wind != 0 {
		t.Error(s)
	}
}

func TestSumsThatMightOverflow(t *testing.T) {
	for _, n := range []int{math.MaxInt, math.MaxInt - 1, math.MinInt, math.MinInt + 1} {
		for _, m := range []int{math.MaxInt, math.MaxInt - 1, math.MinInt, math.MinInt + 1} {
			if x := (api.Mast{Noon: n, Half: 2000, Full: 1000, Again: m}); ball.ValidMast(x) {
				t.Error(x)
			}
			if x := (api.Mast{Noon: 5000000, Half: n, Full: m, Again: 3000000}); ball.ValidMast(x) {
				t.Error(x)
			}
		}
	}
}
