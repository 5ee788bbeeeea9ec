package sight

import (
	"iter"
	"math"
	"slices"

	"noongun/api"
)

const (
	carried   = -1 // the mark of a step of carry
	none      = -1 // in place of a point's or a step's number
	unreached = math.MaxInt
)

// point is a clock at a time. All points of the sky are one, at 0.
type point struct{ clock, at int }

func pointOf(clock, at int) point {
	if clock == sky {
		return point{sky, 0}
	}
	return point{clock, at}
}

// step leads from one point of a chart to another one. Its mark is the number that a proof has for it.
type step struct{ from, to, cost, mark int }

// chart is a net's points, numbered in the order in which they were met, and the steps between them.
type chart struct {
	points  []point
	numbers map[point]int
	steps   []step
}

// chartOf returns the chart of a valid net, with the points of its sights and those that are asked for.
func chartOf(x api.Net, asked ...point) *chart {
	c := &chart{numbers: map[point]int{}}
	for mark := range 2 * len(x.Sights) {
		p, q, cost := taken(x, mark)
		from := c.number(p)
		to := c.number(q)
		c.steps = append(c.steps, step{from, to, cost, mark})
	}
	for _, p := range asked {
		c.number(p)
	}
	for s := range c.carries(x.Rates) {
		c.steps = append(c.steps, s)
	}
	return c
}

// taken returns where the step of a sight begins and ends, and its cost, by the number that a proof has for it.
func taken(x api.Net, mark int) (from, to point, cost int) {
	s := x.Sights[mark/2]
	a, b := pointOf(s.A, s.At), pointOf(s.B, s.At)
	if mark%2 == 1 {
		return a, b, -s.Lo
	}
	return b, a, s.Hi
}

// number returns a point's number; a point that was not met before gets the next one.
func (c *chart) number(p point) int {
	n, met := c.numbers[p]
	if !met {
		n = len(c.points)
		c.numbers[p] = n
		c.points = append(c.points, p)
	}
	return n
}

// carries are the steps between all points of each clock. Those that are not neighbours count too: a carry for the whole time may be less than those for its parts, each rounded up.
func (c *chart) carries(rates []int) iter.Seq[step] {
	return func(yield func(step) bool) {
		for from, p := range c.points {
			for to, q := range c.points {
				if p.clock != q.clock || from == to {
					continue
				}
				if !yield(step{from, to, carryBetween(rates, p, q), carried}) {
					return
				}
			}
		}
	}
}

// carryBetween returns the carry between two points of a clock.
func carryBetween(rates []int, p, q point) int {
	return carry(rates[p.clock], max(p.at, q.at)-min(p.at, q.at))
}

// settle pushes costs along the steps until nothing changes. It returns the step by which each point got its cost, and a point whose cost still fell after as many rounds as there are points, if there is one: only a circle below 0 can do that.
func (c *chart) settle(costs []int) (by []int, falling int) {
	by, falling = slices.Repeat([]int{none}, len(c.points)), none
	push := func(i int) bool {
		s := c.steps[i]
		if costs[s.from] == unreached || costs[s.from]+s.cost >= costs[s.to] {
			return false
		}
		costs[s.to] = costs[s.from] + s.cost
		by[s.to] = i
		return true
	}
	for range c.points {
		falling = none
		for i := range c.steps {
			if push(i) {
				falling = c.steps[i].to
			}
		}
		if falling == none {
			break
		}
	}
	return by, falling
}

// conflict returns a proof that the net contradicts itself, or nil if it does not.
func (c *chart) conflict() []int {
	by, at := c.settle(make([]int, len(c.points))) // any point may be on a circle, so each one costs 0 at first
	if at == none {
		return nil
	}
	for range c.points { // so far back from a falling cost one is on a circle
		at = c.steps[by[at]].from
	}
	var l []int
	for first := at; ; {
		s := c.steps[by[at]]
		if s.mark != carried { // carries in a row are no cheaper than the one that a proof has in their place
			l = append(l, s.mark)
		}
		at = s.from
		if at == first {
			break
		}
	}
	slices.Reverse(l)
	return l
}

// least returns the least sum of steps from one point of the chart to another one, or unreached, in a net that does not contradict itself.
func (c *chart) least(from, to point) int {
	costs := slices.Repeat([]int{unreached}, len(c.points))
	costs[c.numbers[from]] = 0
	c.settle(costs)
	return costs[c.numbers[to]]
}

// difference returns the bounds of the error at p less that at q, or false if it has none. Each step can be taken both ways, at some cost, so there are both bounds or none.
func (c *chart) difference(p, q point) (api.Span, bool) {
	most := c.least(q, p)
	if most == unreached {
		return api.Span{}, false
	}
	return api.Span{Lo: -c.least(p, q), Hi: most}, true
}
