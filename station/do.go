package station

import (
	"math/bits"
	"slices"
	"strconv"
	"strings"

	"noongun/api"
	"noongun/ball"
	"noongun/flag"
	"noongun/ledger"
	"noongun/sight"
)

const (
	flagCount = 13
	everyFlag = 1<<flagCount - 1
	lastDay   = 11000
)

// refusal is the error by which a line is refused, on its way out.
type refusal api.Errno

// must refuses a line unless something is as it must be.
func must(right bool, e api.Errno) {
	if !right {
		panic(refusal(e))
	}
}

// Do does a line.
func (x *Station) Do(line string) (reply string, e api.Errno) {
	if !ball.ValidMast(x.kept().mast) { // x is nil, or New did not set it up
		return "", api.ErrState
	}
	defer func() {
		switch r := recover().(type) {
		case nil:
		case refusal:
			reply, e = "", api.Errno(r)
		default: // nothing else panics; if it did, the line would be refused too
			reply, e = "", api.ErrState
		}
	}()
	after := x.Copy() // a refused line changes nothing but this
	reply = after.done(line)
	*x = *after
	return reply, api.OK
}

// done does a line, writes it into the book, and returns the reply.
func (x *Station) done(line string) string {
	does, numbers := read(line)
	must(len(x.texts) < api.MaxLines, api.ErrLimit)
	reply := does(x, numbers)
	x.texts = with(x.texts, strings.Clone(line))
	return reply
}

func (x *Station) addSight(n []int) string {
	net, e := sight.Added(x.net, api.Sight{At: x.timeOf(n[0]), A: n[1], B: n[2], Lo: n[3], Hi: n[4]})
	must(e == api.OK, e)
	consistent, _ := sight.Consistent(net)
	must(consistent, api.ErrState)
	return x.goOn(net)
}

func (x *Station) dropSight(n []int) string {
	net, e := sight.Without(x.net, n[0])
	must(e == api.OK, e)
	return x.goOn(net)
}

// goOn puts a net in the place of the one that was there.
func (x *Station) goOn(net api.Net) string {
	x.net = net
	return told("sights", len(net.Sights))
}

func (x *Station) addEvent(n []int) string {
	event := api.Event{At: n[0], Kind: n[1], N: n[2]}
	now, e := ball.Next(x.mast, x.Ball(), event)
	must(e == api.OK, e)
	must(len(x.log) < api.MaxEvents, api.ErrLimit)
	x.log = with(x.log, event)
	return told("place", now.Place)
}

func (x *Station) closeDay([]int) string {
	must(x.Day() < lastDay, api.ErrLimit)
	verdict, e := ball.Verdict(x.mast, x.log)
	must(e == api.OK, e)
	x.verdicts = with(x.verdicts, verdict)
	x.log = nil
	return ball.Word(verdict)
}

func (x *Station) say(n []int) string {
	return x.enter(api.Entry{Day: x.Day(), Error: n[0]})
}

func (x *Station) find(n []int) string {
	must(n[0] <= x.Day(), api.ErrRange)
	return x.enter(api.Entry{Day: n[0], Found: true, Error: n[1]})
}

func (x *Station) enter(entry api.Entry) string {
	entries, e := ledger.Added(x.ledger, entry)
	must(e == api.OK, e)
	x.ledger = entries
	return told("entries", len(entries))
}

func (x *Station) tellError(n []int) string {
	bounds, e := sight.Error(x.net, n[0], x.timeOf(n[1]))
	must(e == api.OK, e)
	return told("error", bounds.Lo, bounds.Hi)
}

func (x *Station) tellBest(n []int) string {
	clock, e := sight.Best(x.net, x.timeOf(n[0]))
	must(e == api.OK, e)
	return told("clock", clock)
}

func (x *Station) tellOff(n []int) string {
	off, e := ledger.Off(x.ledger, n[0])
	must(e == api.OK, e)
	return told("off", off)
}

func (x *Station) tear(n []int) string {
	must(n[0] < flagCount, api.ErrRange)
	must(x.flags>>n[0]&1 == 1, api.ErrFlag)
	return x.turn(n[0])
}

func (x *Station) mend(n []int) string {
	must(n[0] < flagCount, api.ErrRange)
	must(x.flags>>n[0]&1 == 0, api.ErrState)
	return x.turn(n[0])
}

// turn takes a flag away that is there, and brings back one that is not.
func (x *Station) turn(f int) string {
	x.flags ^= 1 << f
	return told("flags", bits.OnesCount(uint(x.flags)))
}

func (x *Station) hoist(n []int) string {
	flags, e := flag.With(n, x.flags)
	must(e == api.OK, e)
	return joined(flags, ",")
}

// timeOf returns the time of the net that a time of the day is.
func (x *Station) timeOf(t int) int {
	must(t < api.Day, api.ErrRange)
	return x.Day()*api.Day + t
}

// with returns a list with an item more, in new memory.
func with[T any](l []T, item T) []T {
	return slices.Concat(l, []T{item})
}

// told returns a reply of a word and numbers.
func told(word string, numbers ...int) string {
	return word + " " + joined(numbers, " ")
}

func joined(numbers []int, between string) string {
	var words []string
	for _, n := range numbers {
		words = append(words, strconv.Itoa(n))
	}
	return strings.Join(words, between)
}
