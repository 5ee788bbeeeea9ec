package gun_test

import (
	"math"
	"math/rand/v2"
	"slices"
	"testing"

	"noongun/api"
	"noongun/gun"
)

// anyBox is within the limits, and its grid has not too many places.
func anyBox(r *rand.Rand, most int) (lo, hi api.Point, step int) {
	for {
		p, q := anyPlace(r, most), anyPlace(r, most)
		lo, hi = api.Point{X: min(p.X, q.X), Y: min(p.Y, q.Y)}, api.Point{X: max(p.X, q.X), Y: max(p.Y, q.Y)}
		step = 1 + r.IntN([]int{3, 100, 10000}[r.IntN(3)])
		if ((hi.X-lo.X)/step+1)*((hi.Y-lo.Y)/step+1) <= 400 {
			return lo, hi, step
		}
	}
}

func TestValidShots(t *testing.T) {
	full := slices.Repeat([]api.Shot{{Gun: ends[0], Lag: api.Span{Lo: 1000000, Hi: 1000000}}}, 6)
	for _, l := range [][]api.Shot{shots(), shots()[:1], {{}}, make([]api.Shot, 6), full, {{Gun: ends[3], Lag: api.Span{Lo: 0, Hi: 1000000}}}, {{Gun: ends[1]}, {Gun: ends[1]}}} {
		if !gun.ValidShots(l) {
			t.Error(l)
		}
	}
	for _, l := range badShots() {
		if gun.ValidShots(l) {
			t.Error(l, "are valid")
		}
	}
}

func TestSuits(t *testing.T) {
	at := api.Point{X: 3400}
	g := api.Shot{Gun: api.Point{}, Lag: api.Span{Lo: 10000, Hi: 10000}}
	windy := api.Air{Speed: 340000, Wind: 10000} // 9714..10304
	for _, c := range []struct {
		a    api.Air
		lag  api.Span
		want bool
	}{
		{still(), api.Span{Lo: 10000, Hi: 10000}, true}, {still(), api.Span{Lo: 0, Hi: 1000000}, true}, {still(), api.Span{Lo: 0, Hi: 10000}, true}, {still(), api.Span{Lo: 10000, Hi: 20000}, true}, {still(), api.Span{Lo: 0, Hi: 9999}, false}, {still(), api.Span{Lo: 10001, Hi: 1000000}, false},
		{windy, api.Span{Lo: 0, Hi: 9713}, false}, {windy, api.Span{Lo: 0, Hi: 9714}, true}, {windy, api.Span{Lo: 9800, Hi: 9900}, true}, {windy, api.Span{Lo: 10304, Hi: 10304}, true}, {windy, api.Span{Lo: 10305, Hi: 10305}, false},
	} {
		for _, l := range [][]api.Shot{{{Lag: c.lag}}, {g, {Lag: c.lag}}, {{Lag: c.lag}, g}, {g, g, g, g, g, {Lag: c.lag}}} {
			if fits, e := gun.Suits(c.a, l, at); fits != c.want || e != api.OK {
				t.Error(c, l, fits, e)
			}
		}
	}
	r := random()
	met := map[bool]int{}
	for range 20000 {
		a, p := anyAir(r), anyPlace(r, 50000)
		l := anyShots(r, a, p, 50000)
		if r.IntN(3) == 0 {
			p.X = max(-50000, p.X-r.IntN(9))
		}
		fits, e := gun.Suits(a, l, p)
		if fits != suits(a, l, p) || e != api.OK {
			t.Fatal(a, l, p, fits, e)
		}
		met[fits]++
	}
	if met[true] < 3000 || met[false] < 3000 {
		t.Error("hardly tried", met)
	}
}

// P5.4: Where's places are just those of the grid that suit, row by row.
func TestWhere(t *testing.T) {
	r := random()
	met := map[bool]int{}
	for range 1500 {
		most := []int{5, 1000, 50000}[r.IntN(3)]
		a := anyAir(r)
		lo, hi, step := anyBox(r, most)
		places := grid(lo, hi, step)
		l := anyShots(r, a, places[r.IntN(len(places))], most)
		want := slices.DeleteFunc(slices.Clone(places), func(p api.Point) bool { return !suits(a, l, p) })
		found, e := gun.Where(a, l, lo, hi, step)
		if !slices.Equal(found, want) || e != api.OK {
			t.Fatal(a, l, lo, hi, step, found, e, "not", want)
		}
		met[len(want) > 0]++
	}
	if met[true] < 300 || met[false] < 100 {
		t.Error("hardly tried", met)
	}
}

func TestKnownPlaces(t *testing.T) {
	at3400 := []api.Shot{{Gun: api.Point{}, Lag: api.Span{Lo: 10000, Hi: 10000}}}
	all := []api.Shot{{Gun: api.Point{}, Lag: api.Span{Lo: 0, Hi: 1000000}}}
	for _, c := range []struct {
		l      []api.Shot
		lo, hi api.Point
		step   int
		want   []api.Point
	}{
		{all, api.Point{X: 1, Y: 2}, api.Point{X: 3, Y: 3}, 1, []api.Point{{X: 1, Y: 2}, {X: 2, Y: 2}, {X: 3, Y: 2}, {X: 1, Y: 3}, {X: 2, Y: 3}, {X: 3, Y: 3}}},
		{all, api.Point{X: -5, Y: -7}, api.Point{X: 5, Y: 7}, 10, []api.Point{{X: -5, Y: -7}, {X: 5, Y: -7}, {X: -5, Y: 3}, {X: 5, Y: 3}}},
		{all, api.Point{X: -5, Y: -7}, api.Point{X: 4, Y: 3}, 10, []api.Point{{X: -5, Y: -7}, {X: -5, Y: 3}}},
		{all, api.Point{X: 9, Y: 9}, api.Point{X: 9, Y: 9}, 10000, []api.Point{{X: 9, Y: 9}}},
		{all, api.Point{X: 49999, Y: 49999}, ends[3], 10000, []api.Point{{X: 49999, Y: 49999}}},
		{at3400, api.Point{X: -3400, Y: -3400}, api.Point{X: 3400, Y: 3400}, 200, []api.Point{{X: 0, Y: -3400}, {X: -1600, Y: -3000}, {X: 1600, Y: -3000}, {X: -3000, Y: -1600}, {X: 3000, Y: -1600}, {X: -3400, Y: 0}, {X: 3400, Y: 0}, {X: -3000, Y: 1600}, {X: 3000, Y: 1600}, {X: -1600, Y: 3000}, {X: 1600, Y: 3000}, {X: 0, Y: 3400}}},
		{at3400, api.Point{X: -100, Y: -100}, api.Point{X: 100, Y: 100}, 50, nil},
	} {
		if found, e := gun.Where(still(), c.l, c.lo, c.hi, c.step); !slices.Equal(found, c.want) || e != api.OK {
			t.Error(c, found, e)
		}
	}
}

func TestGridsOfManyPlaces(t *testing.T) {
	all := []api.Shot{{Gun: api.Point{}, Lag: api.Span{Lo: 0, Hi: 1000000}}}
	none := []api.Shot{{Gun: api.Point{}, Lag: api.Span{Lo: 1000000, Hi: 1000000}}}
	for _, c := range []struct {
		x, y, step int
		e          api.Errno
	}{
		{99, 99, 1, api.OK}, {100, 99, 1, api.ErrLimit}, {99, 100, 1, api.ErrLimit}, {9999, 0, 1, api.OK}, {0, 9999, 1, api.OK}, {10000, 0, 1, api.ErrLimit}, {0, 10000, 1, api.ErrLimit}, {4999, 1, 1, api.OK}, {5000, 1, 1, api.ErrLimit},
		{999, 999, 10, api.OK}, {1000, 999, 10, api.ErrLimit}, {999, 1000, 10, api.ErrLimit}, {100000, 100000, 10000, api.OK}, {100000, 100000, 1011, api.OK}, {100000, 100000, 1010, api.OK}, {100000, 100000, 1001, api.OK}, {100000, 100000, 1000, api.ErrLimit}, {100000, 100000, 1, api.ErrLimit}, {100000, 9999, 100, api.ErrLimit}, {99999, 999, 100, api.OK},
	} {
		hi := api.Point{X: -50000 + c.x, Y: -50000 + c.y}
		found, e := gun.Where(still(), all, ends[0], hi, c.step)
		if e != c.e || e == api.OK && !slices.Equal(found, grid(ends[0], hi, c.step)) || e != api.OK && len(found) > 0 {
			t.Error(c, len(found), e)
		}
		if found, e := gun.Where(still(), none, ends[0], hi, c.step); e != c.e || len(found) > 0 {
			t.Error("none", c, len(found), e)
		}
	}
}

// nearestAndFarthest are found by trying all places of a box.
func nearestAndFarthest(lo, hi, from api.Point) (nearest, farthest api.Point) {
	nearest, farthest = lo, lo
	for _, p := range grid(lo, hi, 1) {
		if squared(p, from) < squared(nearest, from) {
			nearest = p
		}
		if squared(p, from) > squared(farthest, from) {
			farthest = p
		}
	}
	return nearest, farthest
}

func TestExcluded(t *testing.T) {
	r := random()
	met := map[bool]int{}
	for range 20000 {
		a := anyAir(r)
		p := anyPlace(r, 12)
		lo, hi := p, api.Point{X: p.X + r.IntN(9), Y: p.Y + r.IntN(9)}
		var l []api.Shot
		want := false
		for range 1 + r.IntN(6) {
			g := anyPlace(r, 20)
			if r.IntN(3) == 0 {
				g = api.Point{X: p.X + r.IntN(9), Y: p.Y + r.IntN(9)}
			}
			nearest, farthest := nearestAndFarthest(lo, hi, g)
			s := api.Span{Lo: lag(a, g, nearest).Lo, Hi: lag(a, g, farthest).Hi}
			heard := api.Span{Lo: r.IntN(s.Hi + 3), Hi: s.Hi + 5} // at or near an end, more often than not
			switch r.IntN(6) {
			case 0:
				heard = api.Span{Lo: 0, Hi: max(0, s.Lo-1+r.IntN(2))}
			case 1:
				heard = api.Span{Lo: s.Hi + r.IntN(2), Hi: 1000000}
			}
			l = append(l, api.Shot{Gun: g, Lag: heard})
			want = want || !meet(s, heard)
		}
		excluded, e := gun.Excluded(a, l, lo, hi)
		if excluded != want || e != api.OK {
			t.Fatal(a, l, lo, hi, excluded, e)
		}
		met[excluded]++
	}
	if met[true] < 1000 || met[false] < 1000 {
		t.Error("hardly tried", met)
	}
}

func TestKnownBoxes(t *testing.T) {
	lo, hi := api.Point{X: 1700, Y: -340}, api.Point{X: 3400, Y: 0}
	for _, c := range []struct {
		guns []api.Point
		lag  api.Span
		want bool
	}{
		// the nearest place hears it after 5,000, the farthest, at 3400, -340, after 10,049.88
		{[]api.Point{{}}, api.Span{Lo: 0, Hi: 4999}, true}, {[]api.Point{{}}, api.Span{Lo: 0, Hi: 5000}, false}, {[]api.Point{{}}, api.Span{Lo: 10050, Hi: 10050}, false}, {[]api.Point{{}}, api.Span{Lo: 10051, Hi: 1000000}, true}, {[]api.Point{{}}, api.Span{Lo: 7000, Hi: 7000}, false},
		// a gun in the box: its own place is the nearest
		{[]api.Point{{X: 2000, Y: -100}}, api.Span{}, false}, {[]api.Point{{X: 1700, Y: -340}}, api.Span{}, false}, {[]api.Point{{X: 3400}}, api.Span{Lo: 5100, Hi: 5100}, false}, {[]api.Point{{X: 3400}}, api.Span{Lo: 5101, Hi: 9999}, true},
		// each gun alone is no reason, though no place hears both at once
		{[]api.Point{{X: 1700}, {X: 3400}}, api.Span{}, false},
		{[]api.Point{{X: 2000}, {}}, api.Span{Lo: 0, Hi: 4999}, true}, {[]api.Point{{}, {X: 2000}}, api.Span{Lo: 0, Hi: 4999}, true},
	} {
		var l []api.Shot
		for _, g := range c.guns {
			l = append(l, api.Shot{Gun: g, Lag: c.lag})
		}
		if excluded, e := gun.Excluded(still(), l, lo, hi); excluded != c.want || e != api.OK {
			t.Error(c, excluded, e)
		}
	}
	if excluded, e := gun.Excluded(still(), []api.Shot{{Lag: api.Span{Lo: 207973, Hi: 207973}}}, ends[0], ends[3]); excluded || e != api.OK {
		t.Error("all places", excluded, e)
	}
	if excluded, e := gun.Excluded(still(), []api.Shot{{Lag: api.Span{Lo: 207974, Hi: 207974}}}, ends[0], ends[3]); !excluded || e != api.OK {
		t.Error("too far for all places", excluded, e)
	}
}

// P5.4: a box that is excluded has no place that suits, with any step; a further shot leaves no more places.
func TestExcludedBoxesAndFurtherShots(t *testing.T) {
	r := random()
	met := map[bool]int{}
	for range 2000 {
		most := []int{5, 1000, 50000}[r.IntN(3)]
		a := anyAir(r)
		lo, hi, step := anyBox(r, most)
		l := anyShots(r, a, anyPlace(r, most), most)
		found, e := gun.Where(a, l, lo, hi, step)
		excluded, f := gun.Excluded(a, l, lo, hi)
		met[excluded]++
		if e != api.OK || f != api.OK || excluded && len(found) > 0 {
			t.Fatal(a, l, lo, hi, step, found, e, f)
		}
		for n := 1; n < len(l); n++ {
			before, _ := gun.Where(a, l[:n], lo, hi, step)
			for _, p := range found {
				if !slices.Contains(before, p) {
					t.Fatal("one more", a, l, lo, hi, step, p)
				}
			}
			if fewer, _ := gun.Excluded(a, l[:n], lo, hi); fewer && !excluded {
				t.Fatal("a shot less excludes", a, l, lo, hi)
			}
		}
	}
	if met[true] < 300 || met[false] < 300 {
		t.Error("hardly tried", met)
	}
}

// P5.5
func TestMirrored(t *testing.T) {
	l, e := gun.Mirrored([]api.Shot{{Gun: api.Point{X: 3, Y: 4}, Lag: api.Span{Lo: 5, Hi: 6}}, {Gun: api.Point{X: -50000, Y: -1}}, {}})
	if want := []api.Shot{{Gun: api.Point{X: -3, Y: 4}, Lag: api.Span{Lo: 5, Hi: 6}}, {Gun: api.Point{X: 50000, Y: -1}}, {}}; !slices.Equal(l, want) || e != api.OK {
		t.Error(l, e)
	}
	r := random()
	met := map[bool]int{}
	for range 5000 {
		a, p := anyAir(r), anyPlace(r, 5000)
		l := anyShots(r, a, p, 5000)
		m, e := gun.Mirrored(l)
		if back, _ := gun.Mirrored(m); e != api.OK || !slices.Equal(back, l) {
			t.Fatal("twice", l, m, e)
		}
		for _, q := range []api.Point{p, {X: -p.X, Y: p.Y}, {X: p.X, Y: -p.Y}, anyPlace(r, 5000)} {
			fits, _ := gun.Suits(a, l, api.Point{X: -q.X, Y: q.Y})
			mirrored, f := gun.Suits(a, m, q)
			if fits != mirrored || f != api.OK {
				t.Fatal(a, l, q, fits, mirrored)
			}
			met[fits]++
		}
	}
	if met[true] < 1000 || met[false] < 1000 {
		t.Error("hardly tried", met)
	}
}

// checkShots calls all that ask for shots, none of which may return anything but an error.
func checkShots(t *testing.T, a api.Air, l []api.Shot, lo, hi api.Point, step int, want api.Errno) {
	t.Helper()
	if fits, e := gun.Suits(a, l, lo); want == api.ErrInvalid && (fits || e != want) {
		t.Error("Suits", a, l, lo, fits, e)
	}
	if found, e := gun.Where(a, l, lo, hi, step); len(found) > 0 || e != want {
		t.Error("Where", a, l, lo, hi, step, found, e)
	}
	if excluded, e := gun.Excluded(a, l, lo, hi); step == 1 && (excluded || e != want) {
		t.Error("Excluded", a, l, lo, hi, excluded, e)
	}
}

func TestInvalidShots(t *testing.T) {
	for _, l := range badShots() {
		if m, e := gun.Mirrored(l); len(m) > 0 || e != api.ErrInvalid {
			t.Error("Mirrored", l, m, e)
		}
		checkShots(t, still(), l, api.Point{}, api.Point{X: 5}, 1, api.ErrInvalid)
		checkShots(t, still(), l, api.Point{X: 50001}, api.Point{X: 5}, 0, api.ErrInvalid)
		checkShots(t, api.Air{}, l, api.Point{}, api.Point{X: 5}, 1, api.ErrInvalid)
		checkShots(t, still(), l, ends[0], ends[3], 1, api.ErrInvalid)
	}
	for _, a := range badAirs() {
		checkShots(t, a, shots(), api.Point{}, api.Point{X: 5}, 1, api.ErrInvalid)
		checkShots(t, a, shots(), api.Point{X: 50001}, api.Point{X: 5}, 0, api.ErrInvalid)
		checkShots(t, a, shots(), ends[0], ends[3], 1, api.ErrInvalid)
	}
}

func TestBoxesAndStepsOutOfRange(t *testing.T) {
	for _, p := range badPlaces() {
		if fits, e := gun.Suits(still(), shots(), p); fits || e != api.ErrRange {
			t.Error("Suits", p, fits, e)
		}
		for _, q := range append(ends, p, api.Point{}) {
			checkShots(t, still(), shots(), p, q, 1, api.ErrRange)
			checkShots(t, still(), shots(), q, p, 1, api.ErrRange)
		}
	}
	for _, c := range [][2]api.Point{{{X: 1}, {}}, {{Y: 1}, {}}, {{X: 1, Y: 1}, {}}, {{X: 1}, {Y: 1}}, {{Y: 1}, {X: 1}}, {ends[3], ends[0]}, {ends[1], ends[0]}, {ends[2], ends[0]}} {
		checkShots(t, still(), shots(), c[0], c[1], 1, api.ErrRange)
	}
	for _, step := range []int{math.MinInt, -10000, -1, 0, 10001, math.MaxInt} {
		checkShots(t, still(), shots(), api.Point{}, api.Point{X: 5}, step, api.ErrRange)
		checkShots(t, still(), shots(), ends[0], ends[3], step, api.ErrRange)
	}
}
