package night

import (
	"slices"

	"noongun/api"
)

const (
	maxObservers   = 8
	maxDifferences = 30
	maxHabit       = 1000000
	none           = -1
)

// Habits returns the habits of observers.
func Habits(observers int, l []api.Sight) ([]int, api.Errno) {
	if !areObservers(observers) || !areDifferences(observers, l) {
		return nil, api.ErrRange
	}
	g := groupsOf(observers, l)
	if g.odd(l) != none {
		return nil, api.ErrState
	}
	if slices.ContainsFunc(g.heads, func(head int) bool { return head != 0 }) {
		return nil, api.ErrNone
	}
	return g.habits, api.OK
}

// Circle returns differences that lead round with a sum that is not 0.
func Circle(observers int, l []api.Sight) ([]int, api.Errno) {
	if !areObservers(observers) || !areDifferences(observers, l) {
		return nil, api.ErrRange
	}
	g := groupsOf(observers, l)
	mark := g.odd(l)
	if mark == none {
		return nil, api.ErrNone
	}
	return g.circle(l, mark), api.OK
}

// groups are the observers who are joined by differences. A way is a list of marks: what Circle has for differences.
type groups struct {
	heads  []int   // of each observer's group the first one of it, or none if he was not met yet
	habits []int   // less that of the head
	ways   [][]int // from the head
}

func groupsOf(observers int, l []api.Sight) groups {
	g := groups{slices.Repeat([]int{none}, observers), make([]int, observers), make([][]int, observers)}
	var queue []int
	meet := func(o, head, habit int, way []int) {
		if g.heads[o] != none {
			return
		}
		g.heads[o], g.habits[o], g.ways[o] = head, habit, way
		queue = append(queue, o)
	}
	for head := range observers {
		meet(head, head, 0, nil)
		for len(queue) > 0 {
			at := queue[0]
			queue = queue[1:]
			for mark := range 2 * len(l) {
				if from, to, by := taken(l, mark); from == at {
					meet(to, head, g.habits[at]+by, append(slices.Clone(g.ways[at]), mark))
				}
			}
		}
	}
	return g
}

// taken returns from whom to whom a mark leads, and by how much the second one's habit is greater.
func taken(l []api.Sight, mark int) (from, to, by int) {
	d := l[mark/2]
	if mark%2 == 1 {
		return d.A, d.B, -d.Lo
	}
	return d.B, d.A, d.Lo
}

// odd returns a mark that contradicts the habits, or none.
func (g groups) odd(l []api.Sight) int {
	for i := range l {
		if from, to, by := taken(l, 2*i); g.habits[from]+by != g.habits[to] {
			return 2 * i
		}
	}
	return none
}

// circle returns the way that a mark closes.
func (g groups) circle(l []api.Sight, mark int) []int {
	from, to, _ := taken(l, mark)
	there, back := g.ways[from], g.ways[to]
	for len(there) > 0 && len(back) > 0 && there[0] == back[0] { // nobody goes where both come from
		there, back = there[1:], back[1:]
	}
	list := append(slices.Clone(there), mark)
	for _, m := range slices.Backward(back) {
		list = append(list, m^1) // the other way
	}
	return list
}

func areObservers(n int) bool {
	return n >= 1 && n <= maxObservers
}

func areDifferences(observers int, l []api.Sight) bool {
	if len(l) > maxDifferences {
		return false
	}
	return !slices.ContainsFunc(l, func(d api.Sight) bool {
		return !isObserver(observers, d.A) || !isObserver(observers, d.B) || d.A == d.B || d.Lo != d.Hi || d.Lo < -maxHabit || d.Lo > maxHabit
	})
}

func isObserver(observers, n int) bool {
	return n >= 0 && n < observers
}
