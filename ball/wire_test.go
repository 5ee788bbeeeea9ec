package ball_test

import (
	"math"
	"slices"
	"testing"

	"noongun/api"
	"noongun/ball"
)

func wire() []api.Relay {
	return []api.Relay{{Lag: 20, Spread: 5}, {Lag: 35, Spread: 10}}
}

func longest() []api.Relay {
	return slices.Repeat([]api.Relay{{Lag: 10000, Spread: 10000}}, 20)
}

func TestValidWire(t *testing.T) {
	for _, l := range [][]api.Relay{wire(), longest(), {{}}, {{Lag: 10000}}, {{Lag: 1, Spread: 1}}, make([]api.Relay, 20)} {
		if !ball.ValidWire(l) {
			t.Error(l)
		}
	}
	for _, l := range badWires() {
		if ball.ValidWire(l) {
			t.Error(l, "is valid")
		}
	}
}

func TestLagAndFalls(t *testing.T) {
	for _, c := range []struct {
		l    []api.Relay
		want api.Span
	}{
		{wire(), api.Span{Lo: 40, Hi: 70}}, {wire()[:1], api.Span{Lo: 15, Hi: 25}}, {longest(), api.Span{Lo: 0, Hi: 400000}}, {[]api.Relay{{}}, api.Span{}}, {[]api.Relay{{Lag: 7}}, api.Span{Lo: 7, Hi: 7}},
	} {
		if s, e := ball.Lag(c.l); s != c.want || e != api.OK {
			t.Error("Lag", c, s, e)
		}
		for _, sent := range []int{0, 1, 43200000, api.Day - 1} { // the ends may be beyond the day
			if s, e := ball.Falls(c.l, sent); s != (api.Span{Lo: sent + c.want.Lo, Hi: sent + c.want.Hi}) || e != api.OK {
				t.Error("Falls", c, sent, s, e)
			}
		}
		for _, sent := range []int{math.MinInt, -1, api.Day, math.MaxInt} {
			if s, e := ball.Falls(c.l, sent); s != (api.Span{}) || e != api.ErrRange {
				t.Error("Falls", c, sent, s, e)
			}
		}
	}
}

func TestSend(t *testing.T) {
	for _, c := range []struct {
		l        []api.Relay
		at, want int
		e        api.Errno
	}{
		{wire(), 43200000, 43199945, api.OK}, {wire(), 55, 0, api.OK}, {wire(), 54, 0, api.ErrNone}, {wire(), 0, 0, api.ErrNone}, {wire(), -1, 0, api.ErrRange}, {wire(), math.MinInt, 0, api.ErrRange},
		{wire(), api.Day - 1, api.Day - 56, api.OK}, {wire(), api.Day, 0, api.ErrRange}, {wire(), math.MaxInt, 0, api.ErrRange}, {[]api.Relay{{}}, 0, 0, api.OK}, {longest(), 200000, 0, api.OK}, {longest(), 199999, 0, api.ErrNone},
	} {
		if at, e := ball.Send(c.l, c.at); at != c.want || e != c.e {
			t.Error(c, at, e)
		}
	}
}

func TestWireErrors(t *testing.T) {
	for _, l := range badWires() {
		for _, at := range []int{0, 43200000, -1, api.Day} {
			if s, e := ball.Lag(l); s != (api.Span{}) || e != api.ErrInvalid {
				t.Error("Lag", l, s, e)
			}
			if n, e := ball.Send(l, at); n != 0 || e != api.ErrInvalid {
				t.Error("Send", l, n, e)
			}
			if s, e := ball.Falls(l, at); s != (api.Span{}) || e != api.ErrInvalid {
				t.Error("Falls", l, s, e)
			}
			if sure, e := ball.Sure(mast(), l); sure || e != api.ErrInvalid {
				t.Error("Sure", l, sure, e)
			}
		}
	}
	for _, x := range badMasts() {
		for _, l := range append(badWires(), wire()) {
			if sure, e := ball.Sure(x, l); sure || e != api.ErrInvalid {
				t.Error("Sure", x, l, sure, e)
			}
		}
	}
}

// P4.5: Sure is that the spread is at most Late, also where it can't be sent for in time.
func TestSure(t *testing.T) {
	x := mast()
	early := api.Mast{Noon: 1001, Half: 1001, Full: 1000, Late: 200, Again: 1001}
	for _, c := range []struct {
		spreads []int
		want    bool
	}{{[]int{0}, true}, {[]int{200}, true}, {[]int{201}, false}, {[]int{100, 100}, true}, {[]int{100, 0, 101}, false}, {[]int{10000}, false}, {[]int{200, 0, 0, 0}, true}} {
		var l []api.Relay
		for _, n := range c.spreads {
			l = append(l, api.Relay{Lag: 10000, Spread: n})
		}
		for _, y := range []api.Mast{x, early} {
			if sure, e := ball.Sure(y, l); sure != c.want || e != api.OK {
				t.Error(y, c, sure, e)
			}
		}
	}
	if sure, e := ball.Sure(api.Mast{Noon: 5000, Half: 1001, Full: 1000, Again: 1001}, []api.Relay{{Lag: 50}}); !sure || e != api.OK {
		t.Error("Late 0, Spread 0", sure, e)
	}
}

// P4.5, and what is said of Sure: all times at which a ball can fall that is sent for by Send are in time.
func TestSureIsInTime(t *testing.T) {
	r := random()
	found := map[bool]int{}
	for range 3000 {
		x, l := anyMast(r), anyWire(r, 20)
		sure, e := ball.Sure(x, l)
		sent, f := ball.Send(l, x.Noon)
		if e != api.OK {
			t.Fatal(x, l, e)
		}
		if f == api.ErrNone {
			continue
		}
		s, g := ball.Falls(l, sent)
		want := s.Lo >= x.Noon-x.Late && s.Hi <= x.Noon+x.Late
		if sure != want || f != api.OK || g != api.OK || s.Lo+s.Hi != 2*x.Noon {
			t.Fatal(x, l, sure, sent, s, f, g)
		}
		found[sure]++
	}
	if found[true] < 100 || found[false] < 100 {
		t.Error("hardly tried", found)
	}
}

// P4.5: a wire of two parts has the sum of their lags.
func TestWiresOfTwoParts(t *testing.T) {
	r := random()
	for range 2000 {
		a, b := anyWire(r, 10), anyWire(r, 10)
		s, e := ball.Lag(a)
		u, f := ball.Lag(b)
		both, g := ball.Lag(slices.Concat(a, b))
		if both != (api.Span{Lo: s.Lo + u.Lo, Hi: s.Hi + u.Hi}) || e != api.OK || f != api.OK || g != api.OK {
			t.Fatal(a, b, s, u, both)
		}
		lag := 0
		for _, relay := range a {
			lag += relay.Lag
		}
		if sent, e := ball.Send(a, 50000000); sent != 50000000-lag || e != api.OK {
			t.Fatal(a, sent, e)
		}
	}
}
