package transit_test

import (
	"math"
	"math/big"
	"math/rand/v2"
	"slices"

	"noongun/api"
)

// The least and the greatest int, and numbers on both sides of each limit.
var extremes = []int{
	math.MinInt, math.MinInt + 1, -api.MaxTime - 1, -api.MaxTime, -api.Day - 1, -api.Day, -api.Day / 2, -1000001, -1000000, -100001, -100000, -api.MaxFactor - 1, -api.MaxFactor,
	-2, -1, 0, 1, 2, 999, 1000, api.MaxFactor, api.MaxFactor + 1, 100000, 100001, 1000000, 1000001,
	api.Day/2 - 1, api.Day / 2, api.Day - 1, api.Day, api.Day + 1, api.MaxTime, api.MaxTime + 1, math.MaxInt - 1, math.MaxInt,
}

func random() *rand.Rand {
	return rand.New(rand.NewPCG(1852, 1861))
}

func star(shift int) api.Star {
	return api.Star{Name: "vega", Ascension: 67000000, Shift: shift, Slow: 1000}
}

// single is a tube of a single wire in the middle.
func single(width int) api.Tube {
	return api.Tube{Wires: []int{0}, Error: width}
}

// three is the tube of the chapter's example.
func three() api.Tube {
	return api.Tube{Wires: []int{-10000, 0, 10000}, Error: 10}
}

// differing is a transit in the tube single, with a difference from -Day / 2 to Day / 2 - 1.
func differing(shift, difference int) api.Transit {
	s := star(shift)
	s.Ascension = max(difference, 0)
	return api.Transit{Star: s, Wires: []int{max(-difference, 0)}}
}

// list is transits in the tube single, each by its shift and its difference.
func list(numbers ...[2]int) []api.Transit {
	var l []api.Transit
	for _, n := range numbers {
		l = append(l, differing(n[0], n[1]))
	}
	return l
}

// missing is a transit in the tube single whose wire was missed.
func missing() api.Transit {
	return api.Transit{Star: star(5), Wires: []int{-1}}
}

func badStars() []api.Star {
	var l []api.Star
	for _, name := range []string{"", "A", "Vega", "1a", "_a", "a-b", "a b", " a", "a ", "aB", "a\n", "\x00", "a\x00", "\u00e4", "a\u00e4", "a\xff", "\xe1", "abcdefghijklmnopq", "`", "{", "a{", "a`", "a/", "a:", "a@"} {
		s := star(0)
		s.Name = name
		l = append(l, s)
	}
	for _, n := range []int{math.MinInt, -1, api.Day, math.MaxInt} {
		s := star(0)
		s.Ascension = n
		l = append(l, s)
	}
	for _, n := range []int{math.MinInt, -api.MaxFactor - 1, api.MaxFactor + 1, math.MaxInt} {
		l = append(l, star(n))
	}
	for _, n := range []int{math.MinInt, -1000, 0, 999, api.MaxFactor + 1, math.MaxInt} {
		s := star(0)
		s.Slow = n
		l = append(l, s)
	}
	return append(l, api.Star{})
}

func badTubes() []api.Tube {
	return []api.Tube{
		{}, {Error: 5}, {Wires: []int{}}, {Wires: []int{0, 1, 2, 3, 4, 5, 6, 7}}, {Wires: []int{0, 0}}, {Wires: []int{1, 0}}, {Wires: []int{0, 1, 2, 2}}, {Wires: []int{0, 2, 1}},
		{Wires: []int{-100001}}, {Wires: []int{100001}}, {Wires: []int{-100001, 0}}, {Wires: []int{0, 100001}}, {Wires: []int{math.MinInt, 0}}, {Wires: []int{math.MaxInt}},
		{Wires: []int{0}, Error: -1}, {Wires: []int{0}, Error: 10001}, {Wires: []int{0}, Error: math.MinInt}, {Wires: []int{0}, Error: math.MaxInt},
	}
}

// badTransits do not fit the tube single.
func badTransits() []api.Transit {
	l := []api.Transit{{}, {Star: star(0)}, {Star: star(0), Wires: []int{}}, {Star: star(0), Wires: []int{1, 2}}, {Star: star(0), Wires: []int{-1, -1}}}
	for _, at := range []int{math.MinInt, -2, api.Day, math.MaxInt} {
		l = append(l, api.Transit{Star: star(0), Wires: []int{at}})
	}
	for _, s := range badStars() {
		l = append(l, api.Transit{Star: s, Wires: []int{7}}, api.Transit{Star: s, Wires: []int{-1}})
	}
	return l
}

var badRatios = []api.Ratio{
	{}, {N: 1}, {N: 0, D: 2}, {N: 2, D: 4}, {N: 1, D: -1}, {N: api.MaxRatio + 1, D: 1}, {N: 1, D: api.MaxRatio + 1}, {N: math.MinInt, D: math.MinInt}, {N: math.MaxInt, D: 1},
}

func anyStar(r *rand.Rand) api.Star {
	names := []string{"a", "vega", "alpha_lyrae", "x1", "a_______________", "z999"}
	slow := 1000 + r.IntN(9001)
	if r.IntN(3) == 0 { // then nothing is rounded
		slow -= slow % 1000
	}
	return api.Star{Name: names[r.IntN(len(names))], Ascension: r.IntN(api.Day), Shift: r.IntN(20001) - 10000, Slow: slow}
}

func anyTube(r *rand.Rand) api.Tube {
	x := api.Tube{Error: r.IntN(10001)}
	for range 1 + r.IntN(7) {
		x.Wires = append(x.Wires, r.IntN(200001)-100000)
	}
	slices.Sort(x.Wires)
	x.Wires = slices.Compact(x.Wires)
	return x
}

// anyTransit fits x; about a third of its wires were missed.
func anyTransit(r *rand.Rand, x api.Tube) api.Transit {
	t := api.Transit{Star: anyStar(r)}
	for range x.Wires {
		at := r.IntN(api.Day)
		if r.IntN(3) == 0 {
			at = -1
		}
		t.Wires = append(t.Wires, at)
	}
	return t
}

// anyList is transits in the tube single whose differences are those of a truth, but for errors that may be too great.
func anyList(r *rand.Rand, count, width int) []api.Transit {
	clock, azimuth := r.IntN(2001)-1000, r.IntN(2001)-1000
	shifts := []int{0, 0, 500, 1000, 1000, -700, 2500, -10000, 10000, r.IntN(20001) - 10000, r.IntN(7) - 3}
	if r.IntN(8) == 0 {
		shifts = shifts[r.IntN(len(shifts)):][:1]
	}
	var l []api.Transit
	for range count {
		shift := shifts[r.IntN(len(shifts))]
		wrong := r.IntN(2*width+1+width/2) - width
		l = append(l, differing(shift, clock+shift*azimuth/1000+wrong))
	}
	return l
}

func rat(n, d int) *big.Rat {
	return big.NewRat(int64(n), int64(d))
}

func sum(a, b *big.Rat) *big.Rat { return new(big.Rat).Add(a, b) }

func less(a, b *big.Rat) *big.Rat { return new(big.Rat).Sub(a, b) }

func times(a, b *big.Rat) *big.Rat { return new(big.Rat).Mul(a, b) }

func over(a, b *big.Rat) *big.Rat { return new(big.Rat).Quo(a, b) }

// floor is q rounded down.
func floor(q *big.Rat) int {
	// big's Div is Euclidean: with a divisor above 0 that is rounding down.
	return int(new(big.Int).Div(q.Num(), q.Denom()).Int64())
}

// limited is a fraction's valid form, if it has one.
func limited(q *big.Rat) (api.Ratio, bool) {
	most := big.NewInt(1000000000)
	if q.Num().CmpAbs(most) > 0 || q.Denom().Cmp(most) > 0 {
		return api.Ratio{}, false
	}
	return api.Ratio{N: int(q.Num().Int64()), D: int(q.Denom().Int64())}, true
}

func ratioOf(a api.Ratio) *big.Rat {
	return rat(a.N, a.D)
}

// truth is a clock error and an azimuth.
type truth struct{ clock, azimuth *big.Rat }

// statements are transits by the letter: shifts, differences and the tube's error.
type statements struct {
	shifts, differences []int
	width               int
}

// statementsOf are those of transits in the tube single.
func statementsOf(l []api.Transit, width int) statements {
	s := statements{width: width}
	for _, t := range l {
		d := t.Star.Ascension - t.Wires[0]
		for d < -43200000 {
			d += 86400000
		}
		for d > 43199999 {
			d -= 86400000
		}
		s.shifts, s.differences = append(s.shifts, t.Star.Shift), append(s.differences, d)
	}
	return s
}

// suit reports whether a truth satisfies all statements.
func (s statements) suit(x truth) bool {
	for i, d := range s.differences {
		rest := less(less(rat(d, 1), x.clock), times(rat(s.shifts[i], 1000), x.azimuth))
		if rest.Abs(rest).Cmp(rat(s.width, 1)) > 0 {
			return false
		}
	}
	return true
}

// parallel reports whether all shifts are the same.
func (s statements) parallel() bool {
	return slices.Min(s.shifts) == slices.Max(s.shifts)
}

// corners are the truths at the corners of what satisfies all statements: where the borders of two of them cross. If not all shifts are the same, that is a polygon, so it has corners unless there is nothing.
func (s statements) corners() []truth {
	var l []truth
	signs := []int{-1, 1}
	for i := range s.shifts {
		for j := range i {
			if s.shifts[i] == s.shifts[j] {
				continue
			}
			for _, a := range signs {
				for _, b := range signs {
					x := crossed(s.shifts[i], s.differences[i]+a*s.width, s.shifts[j], s.differences[j]+b*s.width)
					if s.suit(x) {
						l = append(l, x)
					}
				}
			}
		}
	}
	return l
}

// crossed is the truth with which two differences are just so.
func crossed(shift, difference, otherShift, otherDifference int) truth {
	azimuth := rat(1000*(difference-otherDifference), shift-otherShift)
	return truth{less(rat(difference, 1), times(rat(shift, 1000), azimuth)), azimuth}
}

func (s statements) agree() bool {
	if s.parallel() {
		return slices.Max(s.differences)-slices.Min(s.differences) <= 2*s.width
	}
	return len(s.corners()) > 0
}

// reach is what Reach must return.
func (s statements) reach() (api.Reach, api.Errno) {
	if !s.agree() {
		return api.Reach{}, api.ErrState
	}
	if s.parallel() && s.shifts[0] == 0 {
		return reachBetween(rat(slices.Max(s.differences)-s.width, 1), rat(slices.Min(s.differences)+s.width, 1))
	}
	var l []*big.Rat
	for _, x := range s.corners() {
		l = append(l, x.clock)
	}
	return reachBetween(l...)
}

// azimuth is what Azimuth must return.
func (s statements) azimuth() (api.Reach, api.Errno) {
	if !s.agree() {
		return api.Reach{}, api.ErrState
	}
	var l []*big.Rat
	for _, x := range s.corners() {
		l = append(l, x.azimuth)
	}
	return reachBetween(l...)
}

// reachBetween is the reach from the least to the greatest of some numbers.
func reachBetween(l ...*big.Rat) (api.Reach, api.Errno) {
	if len(l) == 0 {
		return api.Reach{}, api.ErrNone
	}
	compare := func(a, b *big.Rat) int { return a.Cmp(b) }
	lo, low := limited(slices.MinFunc(l, compare))
	hi, high := limited(slices.MaxFunc(l, compare))
	if !low || !high {
		return api.Reach{}, api.ErrLimit
	}
	return api.Reach{Lo: lo, Hi: hi}, api.OK
}

// part are some of the statements.
func (s statements) part(set []int) statements {
	p := statements{width: s.width}
	for _, i := range set {
		p.shifts, p.differences = append(p.shifts, s.shifts[i]), append(p.differences, s.differences[i])
	}
	return p
}

// sets are all ascending lists of numbers below n, but for the empty one, the shorter ones first, those of one length in order.
func sets(n int) [][]int {
	var l [][]int
	for bits := 1; bits < 1<<n; bits++ {
		var set []int
		for i := range n {
			if bits>>i&1 == 1 {
				set = append(set, i)
			}
		}
		l = append(l, set)
	}
	slices.SortFunc(l, func(a, b []int) int {
		if len(a) != len(b) {
			return len(a) - len(b)
		}
		return slices.Compare(a, b)
	})
	return l
}
