package gun_test

import (
	"math"
	"math/big"
	"slices"
	"testing"

	"noongun/api"
	"noongun/gun"
)

func TestExamples(t *testing.T) {
	for _, p := range []api.Point{{X: 3400}, {X: 3000, Y: 1600}, {X: -3400}, {Y: 3400}, {X: -1600, Y: -3000}} {
		if s, e := gun.Lag(still(), api.Point{}, p); s != (api.Span{Lo: 10000, Hi: 10000}) || e != api.OK {
			t.Error(p, s, e)
		}
	}
	if n, e := gun.SpeedAt(15000); n != 340390 || e != api.OK {
		t.Error("SpeedAt", n, e)
	}
	if alike, e := gun.Alike(still(), api.Point{}, api.Point{X: 3400}, api.Point{X: 3000, Y: 1600}); !alike || e != api.OK {
		t.Error("Alike", alike, e)
	}
}

func TestValidAir(t *testing.T) {
	for _, a := range airs() {
		if !gun.ValidAir(a) {
			t.Error(a)
		}
	}
	for _, a := range badAirs() {
		if gun.ValidAir(a) {
			t.Error(a, "is valid")
		}
	}
}

func TestSpeedAt(t *testing.T) {
	for degrees := -50000; degrees <= 50000; degrees++ {
		change := big.NewInt(int64(606 * degrees))
		change.Div(change, big.NewInt(1000)) // rounds down, as the divisor is above 0
		if n, e := gun.SpeedAt(degrees); n != 331300+int(change.Int64()) || e != api.OK {
			t.Fatal(degrees, n, e)
		}
	}
	for degrees, want := range map[int]int{0: 331300, 1: 331300, 2: 331301, -1: 331299, -2: 331298, 1000: 331906, -1000: 330694, 50000: 361600, -50000: 301000, -49999: 301000, -500: 330997} {
		if n, e := gun.SpeedAt(degrees); n != want || e != api.OK {
			t.Error(degrees, n, e)
		}
	}
	for _, degrees := range []int{math.MinInt, -50001, 50001, math.MaxInt} {
		if n, e := gun.SpeedAt(degrees); n != 0 || e != api.ErrRange {
			t.Error(degrees, n, e)
		}
	}
}

func TestLag(t *testing.T) {
	for _, c := range []struct {
		a    api.Air
		p, q api.Point
		want api.Span
	}{
		{still(), api.Point{}, api.Point{}, api.Span{}},
		{still(), ends[0], ends[0], api.Span{}},
		{still(), api.Point{}, api.Point{X: 1}, api.Span{Lo: 2, Hi: 3}},
		{still(), api.Point{X: 1, Y: 1}, api.Point{}, api.Span{Lo: 4, Hi: 5}},
		{still(), api.Point{X: 17}, api.Point{}, api.Span{Lo: 50, Hi: 50}},
		{api.Air{Speed: 340000, Wind: 10000}, api.Point{}, api.Point{X: 3400}, api.Span{Lo: 9714, Hi: 10304}},
		{api.Air{Speed: 300000, Wind: 50000}, ends[0], ends[3], api.Span{Lo: 404061, Hi: 565686}},
		{api.Air{Speed: 400000, Wind: 50000}, ends[1], ends[2], api.Span{Lo: 314269, Hi: 404062}},
		{api.Air{Speed: 300000}, ends[0], ends[1], api.Span{Lo: 333333, Hi: 333334}},
		{api.Air{Speed: 400000}, ends[0], ends[1], api.Span{Lo: 250000, Hi: 250000}},
	} {
		if s, e := gun.Lag(c.a, c.p, c.q); s != c.want || e != api.OK || c.want != lag(c.a, c.p, c.q) {
			t.Error(c, s, e)
		}
	}
	r := random()
	for range 20000 {
		most := []int{3, 100, 5000, 50000}[r.IntN(4)]
		a, p, q := anyAir(r), anyPlace(r, most), anyPlace(r, most)
		if s, e := gun.Lag(a, p, q); s != lag(a, p, q) || e != api.OK {
			t.Fatal(a, p, q, s, e)
		}
	}
}

// P5.2: a greater squared distance has no lesser Lo and no lesser Hi, whichever of two places the gun is.
func TestFartherIsLater(t *testing.T) {
	r := random()
	for range 20000 {
		most := []int{3, 100, 50000}[r.IntN(3)]
		a, p, q, u, v := anyAir(r), anyPlace(r, most), anyPlace(r, most), anyPlace(r, most), anyPlace(r, most)
		if squared(p, q) > squared(u, v) {
			p, q, u, v = u, v, p, q
		}
		near, e := gun.Lag(a, p, q)
		far, f := gun.Lag(a, u, v)
		back, g := gun.Lag(a, q, p)
		if near.Lo > far.Lo || near.Hi > far.Hi || near.Lo > near.Hi || back != near || e != api.OK || f != api.OK || g != api.OK {
			t.Fatal(a, p, q, near, u, v, far, back)
		}
		if squared(p, q) == squared(u, v) && near != far {
			t.Fatal("as far, but not as late", a, p, q, near, u, v, far)
		}
	}
}

// P5.2: more wind widens lags; a greater speed makes neither end greater.
func TestWindAndSpeed(t *testing.T) {
	r := random()
	for range 20000 {
		a, p, q := anyAir(r), anyPlace(r, 50000), anyPlace(r, 50000)
		windier, faster := a, a
		windier.Wind += r.IntN(50001 - a.Wind)
		faster.Speed += r.IntN(400001 - a.Speed)
		s, _ := gun.Lag(a, p, q)
		wide, e := gun.Lag(windier, p, q)
		early, f := gun.Lag(faster, p, q)
		if wide.Lo > s.Lo || wide.Hi < s.Hi || early.Lo > s.Lo || early.Hi > s.Hi || e != api.OK || f != api.OK {
			t.Fatal(a, windier, faster, p, q, s, wide, early)
		}
	}
}

func TestHeardAndCorrected(t *testing.T) {
	for _, c := range []struct {
		a               api.Air
		at              api.Point
		time            int
		heard, corrects api.Span
	}{
		{still(), api.Point{X: 3400}, 46800000, api.Span{Lo: 46810000, Hi: 46810000}, api.Span{Lo: 46790000, Hi: 46790000}},
		{still(), api.Point{X: 1}, 0, api.Span{Lo: 2, Hi: 3}, api.Span{Lo: -3, Hi: -2}},
		{still(), api.Point{}, 0, api.Span{}, api.Span{}},
		{still(), api.Point{}, 86399999, api.Span{Lo: 86399999, Hi: 86399999}, api.Span{Lo: 86399999, Hi: 86399999}},
		{still(), api.Point{X: 1}, 86399999, api.Span{Lo: 86400001, Hi: 86400002}, api.Span{Lo: 86399996, Hi: 86399997}},
		{api.Air{Speed: 340000, Wind: 10000}, api.Point{X: 3400}, 9714, api.Span{Lo: 19428, Hi: 20018}, api.Span{Lo: -590, Hi: 0}},
	} {
		if s, e := gun.Heard(c.a, api.Point{}, c.at, c.time); s != c.heard || e != api.OK {
			t.Error("Heard", c, s, e)
		}
		if s, e := gun.Corrected(c.a, api.Point{}, c.at, c.time); s != c.corrects || e != api.OK {
			t.Error("Corrected", c, s, e)
		}
	}
	r := random()
	for range 5000 {
		a, p, q, at := anyAir(r), anyPlace(r, 50000), anyPlace(r, 50000), r.IntN(api.Day)
		want := lag(a, p, q)
		if s, e := gun.Heard(a, p, q, at); s != (api.Span{Lo: at + want.Lo, Hi: at + want.Hi}) || e != api.OK {
			t.Fatal("Heard", a, p, q, at, s, e)
		}
		if s, e := gun.Corrected(a, p, q, at); s != (api.Span{Lo: at - want.Hi, Hi: at - want.Lo}) || e != api.OK {
			t.Fatal("Corrected", a, p, q, at, s, e)
		}
	}
}

// P5.3
func TestBack(t *testing.T) {
	r := random()
	tried := 0
	for range 5000 {
		a, p, q, fired := anyAir(r), anyPlace(r, 50000), anyPlace(r, 50000), r.IntN(api.Day)
		heard, _ := gun.Heard(a, p, q, fired)
		for _, at := range []int{heard.Lo, heard.Hi, heard.Lo + r.IntN(heard.Hi-heard.Lo+1)} {
			if at >= api.Day {
				continue
			}
			tried++
			if s, e := gun.Corrected(a, p, q, at); !has(s, fired) || e != api.OK {
				t.Fatal(a, p, q, fired, at, s, e)
			}
		}
		for _, at := range []int{heard.Lo - 1, heard.Hi + 1} {
			if s, e := gun.Corrected(a, p, q, at); e == api.OK && has(s, fired) {
				t.Fatal("too wide", a, p, q, fired, at, s)
			}
		}
	}
	if tried < 10000 {
		t.Error("hardly tried", tried)
	}
}

func TestTable(t *testing.T) {
	for _, l := range [][]api.Point{nil, {}} {
		if lags, e := gun.Table(still(), api.Point{}, l); len(lags) != 0 || e != api.OK {
			t.Error("no places", lags, e)
		}
	}
	r := random()
	for n := 1; n <= 100; n++ {
		a, p := anyAir(r), anyPlace(r, 50000)
		var l []api.Point
		var want []api.Span
		for range n {
			q := anyPlace(r, 50000)
			l, want = append(l, q), append(want, lag(a, p, q))
		}
		if lags, e := gun.Table(a, p, l); !slices.Equal(lags, want) || e != api.OK {
			t.Fatal(a, p, l, lags, e)
		}
	}
	for _, n := range []int{101, 102, 5000} {
		if lags, e := gun.Table(still(), api.Point{}, make([]api.Point, n)); len(lags) != 0 || e != api.ErrRange {
			t.Error(n, lags, e)
		}
	}
	for _, bad := range badPlaces() {
		for _, l := range [][]api.Point{{bad}, {{}, bad}, {bad, {}}, {{}, {X: 5}, bad, {}}} {
			if lags, e := gun.Table(still(), api.Point{}, l); len(lags) != 0 || e != api.ErrRange {
				t.Error(l, lags, e)
			}
		}
		for _, l := range [][]api.Point{nil, {{}}} {
			if lags, e := gun.Table(still(), bad, l); len(lags) != 0 || e != api.ErrRange {
				t.Error("gun", bad, lags, e)
			}
		}
	}
}

func TestFirst(t *testing.T) {
	for _, c := range []struct {
		guns []api.Point
		want int
	}{
		{[]api.Point{{X: 50000}}, 0}, {[]api.Point{{X: 500}, {X: -400}, {Y: 450}}, 1}, {[]api.Point{{X: 500}, {Y: -500}, {X: 300, Y: 400}}, 0}, {[]api.Point{{X: 501}, {Y: -500}, {X: 300, Y: 400}}, 1},
		{[]api.Point{{X: 9}, {X: 8}, {X: 7}, {X: 6}, {X: 5}, {X: 4}}, 5}, {[]api.Point{{}, {}, {}}, 0},
		// the second one is nearer, but its lag ends as late
		{[]api.Point{{X: 1, Y: 100}, {Y: 100}}, 0}, {[]api.Point{{Y: 100}, {X: 1, Y: 100}}, 0},
	} {
		if n, e := gun.First(still(), c.guns, api.Point{}); n != c.want || e != api.OK {
			t.Error(c, n, e)
		}
	}
	r := random()
	found := map[int]int{}
	for range 20000 {
		most := []int{3, 20, 50000}[r.IntN(3)]
		a, at := anyAir(r), anyPlace(r, most)
		var guns []api.Point
		for range 1 + r.IntN(6) {
			guns = append(guns, anyPlace(r, most))
		}
		n, e := gun.First(a, guns, at)
		for i, p := range guns {
			his, other := lag(a, guns[n], at).Hi, lag(a, p, at).Hi
			if other < his || other == his && i < n || e != api.OK {
				t.Fatal(a, guns, at, n, e)
			}
		}
		found[n]++
	}
	if len(found) != 6 {
		t.Error("hardly tried", found)
	}
}

func TestFirstErrors(t *testing.T) {
	for _, guns := range [][]api.Point{nil, {}, make([]api.Point, 7), make([]api.Point, 100), make([]api.Point, 101), make([]api.Point, 5000)} {
		if n, e := gun.First(still(), guns, api.Point{}); n != 0 || e != api.ErrRange {
			t.Error(len(guns), n, e)
		}
		if n, e := gun.First(api.Air{}, guns, api.Point{}); n != 0 || e != api.ErrInvalid {
			t.Error(len(guns), n, e)
		}
	}
	for _, bad := range badPlaces() {
		for _, guns := range [][]api.Point{{bad}, {{X: 9}, bad}, {{X: 9}, {}, bad, {}}} {
			if n, e := gun.First(still(), guns, api.Point{}); n != 0 || e != api.ErrRange {
				t.Error(guns, n, e)
			}
		}
		if n, e := gun.First(still(), []api.Point{{X: 9}, {}}, bad); n != 0 || e != api.ErrRange {
			t.Error(bad, n, e)
		}
	}
}

func TestAlike(t *testing.T) {
	for _, c := range []struct {
		a       api.Air
		g, p, q api.Point
		want    bool
	}{
		{still(), api.Point{}, api.Point{X: 5}, api.Point{X: 5}, true},
		{still(), api.Point{X: 7, Y: 9}, api.Point{X: 10, Y: 13}, api.Point{X: 2, Y: 9}, true},
		{still(), api.Point{}, api.Point{X: 1, Y: 100}, api.Point{Y: 100}, true}, // not as far, but as late
		{still(), api.Point{}, api.Point{X: 100}, api.Point{X: 101}, false},
		{still(), api.Point{}, api.Point{}, api.Point{X: 1}, false},
	} {
		if alike, e := gun.Alike(c.a, c.g, c.p, c.q); alike != c.want || e != api.OK {
			t.Error(c, alike, e)
		}
	}
	r := random()
	found := map[string]int{}
	for range 20000 {
		most := []int{3, 20, 100}[r.IntN(3)]
		a, g, p, q := anyAir(r), anyPlace(r, most), anyPlace(r, most), anyPlace(r, most)
		s, u := lag(a, g, p), lag(a, g, q)
		want := s.Lo == u.Lo && s.Hi == u.Hi
		if alike, e := gun.Alike(a, g, p, q); alike != want || e != api.OK {
			t.Fatal(a, g, p, q, alike, e)
		}
		switch {
		case want && squared(g, p) != squared(g, q):
			found["not as far"]++
		case want:
			found["alike"]++
		case s.Lo == u.Lo:
			found["one Lo"]++
		case s.Hi == u.Hi:
			found["one Hi"]++
		}
	}
	if len(found) != 4 {
		t.Error("hardly tried", found)
	}
}

// In air that is not valid nothing else matters; then places and times are to be in their ranges.
func TestAirsPlacesAndTimes(t *testing.T) {
	check := func(a api.Air, p, q api.Point, at int, want api.Errno) {
		t.Helper()
		if s, e := gun.Heard(a, p, q, at); s != (api.Span{}) || e != want {
			t.Error("Heard", a, p, q, at, s, e)
		}
		if s, e := gun.Corrected(a, p, q, at); s != (api.Span{}) || e != want {
			t.Error("Corrected", a, p, q, at, s, e)
		}
		if at >= 0 && at < api.Day || want == api.ErrInvalid {
			if s, e := gun.Lag(a, p, q); s != (api.Span{}) || e != want {
				t.Error("Lag", a, p, q, s, e)
			}
			for _, l := range [][3]api.Point{{p, q, q}, {q, p, p}, {p, p, q}, {p, q, p}} {
				if alike, e := gun.Alike(a, l[0], l[1], l[2]); alike || e != want {
					t.Error("Alike", a, l, alike, e)
				}
			}
			if lags, e := gun.Table(a, p, []api.Point{q}); len(lags) > 0 || e != want {
				t.Error("Table", a, p, q, lags, e)
			}
			if n, e := gun.First(a, []api.Point{p}, q); n != 0 || e != want {
				t.Error("First", a, p, q, n, e)
			}
		}
	}
	places := append(badPlaces(), api.Point{})
	for _, a := range badAirs() {
		for _, p := range places {
			check(a, p, api.Point{}, 5, api.ErrInvalid)
			check(a, api.Point{}, p, -1, api.ErrInvalid)
		}
	}
	for _, p := range badPlaces() {
		for _, at := range []int{0, -1, 43200000, api.Day} {
			check(still(), p, api.Point{X: 3}, at, api.ErrRange)
			check(still(), api.Point{X: 3}, p, at, api.ErrRange)
			check(still(), p, p, at, api.ErrRange)
		}
	}
	for _, at := range []int{math.MinInt, -1, 86400000, 86400001, math.MaxInt} {
		check(still(), api.Point{}, api.Point{X: 3}, at, api.ErrRange)
	}
}
