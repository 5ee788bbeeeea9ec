package station_test

import (
	"fmt"
	"regexp"
	"slices"
	"strconv"
	"strings"
	"testing"

	"noongun/api"
	"noongun/ball"
	"noongun/flag"
	"noongun/ledger"
	"noongun/sight"
	"noongun/station"
)

// model is a station by the letter of the chapter.
type model struct {
	mast    api.Mast
	net     api.Net
	logs    [][]api.Event // of all days; the last one is that of the day
	entries []api.Entry
	lost    []int // flags
	texts   []string
	replies []string
}

func modelOf(m api.Mast, rates []int) *model {
	return &model{mast: m, net: api.Net{Rates: slices.Clone(rates)}, logs: [][]api.Event{nil}}
}

func (x *model) copied() *model {
	y := *x
	y.logs = nil
	for _, log := range x.logs {
		y.logs = append(y.logs, slices.Clone(log))
	}
	y.net = api.Net{Rates: slices.Clone(x.net.Rates), Sights: slices.Clone(x.net.Sights)}
	y.entries, y.lost = slices.Clone(x.entries), slices.Clone(x.lost)
	y.texts, y.replies = slices.Clone(x.texts), slices.Clone(x.replies)
	return &y
}

func (x *model) day() int { return len(x.logs) - 1 }

func (x *model) log() []api.Event { return x.logs[x.day()] }

func (x *model) verdicts() []int {
	var l []int
	for _, log := range x.logs[:x.day()] {
		v, _ := ball.Verdict(x.mast, log)
		l = append(l, v)
	}
	return l
}

func (x *model) flags() int {
	flags := 8191
	for _, f := range x.lost {
		flags -= 1 << f
	}
	return flags
}

func (x *model) ball() api.Ball {
	now, _, _ := ball.Run(x.mast, x.log())
	return now
}

func (x *model) told() string {
	return fmt.Sprintf("%d %v %v %v %v %v %d\n%s", x.day(), x.net, x.log(), x.ball(), x.verdicts(), x.entries, x.flags(), bookOf(x.texts...))
}

// What stands for T, A, B and so on in forms.
var wordKinds = strings.NewReplacer("NUMBER", `(0|[1-9][0-9]{0,11})`, "SIGNED", `(0|-?[1-9][0-9]{0,11})`, "DIGITS", `([0-9]{1,4})`)

var lineForms = []struct {
	form string
	do   func(x *model, words []string, n []int) (string, api.Errno)
}{
	{"sight NUMBER NUMBER NUMBER SIGNED SIGNED", (*model).sight}, {"event NUMBER NUMBER NUMBER", (*model).event}, {"close", (*model).close}, {"say SIGNED", (*model).say}, {"found NUMBER SIGNED", (*model).found}, {"error NUMBER NUMBER", (*model).error},
	{"best NUMBER", (*model).best}, {"off NUMBER", (*model).off}, {"torn NUMBER", (*model).torn}, {"mended NUMBER", (*model).mended}, {"hoist DIGITS", (*model).hoist}, {"drop NUMBER", (*model).drop},
}

func patternOf(form string) *regexp.Regexp {
	return regexp.MustCompile(`\A` + wordKinds.Replace(form) + `\z`)
}

var linePatterns = func() (l []*regexp.Regexp) {
	for _, f := range lineForms {
		l = append(l, patternOf(f.form))
	}
	return l
}()

// do does a line; the model's parts change only behind all errors.
func (x *model) do(line string) (string, api.Errno) {
	for i, f := range lineForms {
		words := linePatterns[i].FindStringSubmatch(line)
		if words == nil {
			continue
		}
		if len(x.texts) == 2000 {
			return "", api.ErrLimit
		}
		var n []int
		for _, w := range words[1:] {
			number, _ := strconv.Atoi(w)
			n = append(n, number)
		}
		reply, e := f.do(x, words[1:], n)
		if e != api.OK {
			return "", e
		}
		x.texts = append(x.texts, line)
		x.replies = append(x.replies, reply)
		return reply, api.OK
	}
	return "", api.ErrCommand
}

func (x *model) sight(_ []string, n []int) (string, api.Errno) {
	if n[0] > 86399999 {
		return "", api.ErrRange
	}
	net, e := sight.Added(x.net, api.Sight{At: x.day()*86400000 + n[0], A: n[1], B: n[2], Lo: n[3], Hi: n[4]})
	if e != api.OK {
		return "", e
	}
	if _, e := sight.Conflict(net); e != api.ErrNone {
		return "", api.ErrState
	}
	x.net = net
	return fmt.Sprint("sights ", len(net.Sights)), api.OK
}

func (x *model) event(_ []string, n []int) (string, api.Errno) {
	event := api.Event{At: n[0], Kind: n[1], N: n[2]}
	after, e := ball.Next(x.mast, x.ball(), event)
	if e == api.OK && len(x.log()) == 100 {
		e = api.ErrLimit
	}
	if e != api.OK {
		return "", e
	}
	x.logs[x.day()] = append(x.log(), event)
	return fmt.Sprint("place ", after.Place), api.OK
}

func (x *model) close([]string, []int) (string, api.Errno) {
	v, e := ball.Verdict(x.mast, x.log())
	x.logs = append(x.logs, nil)
	return ball.Word(v), e
}

func (x *model) say(_ []string, n []int) (string, api.Errno) {
	return x.added(api.Entry{Day: x.day(), Error: n[0]})
}

func (x *model) found(_ []string, n []int) (string, api.Errno) {
	if n[0] > x.day() {
		return "", api.ErrRange
	}
	return x.added(api.Entry{Day: n[0], Found: true, Error: n[1]})
}

func (x *model) added(entry api.Entry) (string, api.Errno) {
	entries, e := ledger.Added(x.entries, entry)
	if e != api.OK {
		return "", e
	}
	x.entries = entries
	return fmt.Sprint("entries ", len(entries)), api.OK
}

func (x *model) error(_ []string, n []int) (string, api.Errno) {
	if n[1] > 86399999 {
		return "", api.ErrRange
	}
	s, e := sight.Error(x.net, n[0], x.day()*86400000+n[1])
	return fmt.Sprintf("error %d %d", s.Lo, s.Hi), e
}

func (x *model) best(_ []string, n []int) (string, api.Errno) {
	if n[0] > 86399999 {
		return "", api.ErrRange
	}
	clock, e := sight.Best(x.net, x.day()*86400000+n[0])
	return fmt.Sprint("clock ", clock), e
}

func (x *model) off(_ []string, n []int) (string, api.Errno) {
	off, e := ledger.Off(x.entries, n[0])
	return fmt.Sprint("off ", off), e
}

func (x *model) torn(_ []string, n []int) (string, api.Errno) {
	if n[0] > 12 {
		return "", api.ErrRange
	}
	if slices.Contains(x.lost, n[0]) {
		return "", api.ErrFlag
	}
	x.lost = append(x.lost, n[0])
	return fmt.Sprint("flags ", 13-len(x.lost)), api.OK
}

func (x *model) mended(_ []string, n []int) (string, api.Errno) {
	if n[0] > 12 {
		return "", api.ErrRange
	}
	i := slices.Index(x.lost, n[0])
	if i < 0 {
		return "", api.ErrState
	}
	x.lost = slices.Delete(x.lost, i, i+1)
	return fmt.Sprint("flags ", 13-len(x.lost)), api.OK
}

func (x *model) hoist(words []string, _ []int) (string, api.Errno) {
	var digits []int
	for _, c := range words[0] {
		digits = append(digits, int(c-'0'))
	}
	h, e := flag.With(digits, x.flags())
	return strings.Trim(strings.ReplaceAll(fmt.Sprint(h), " ", ","), "[]"), e
}

func (x *model) drop(_ []string, n []int) (string, api.Errno) {
	if n[0] >= len(x.net.Sights) {
		return "", api.ErrName
	}
	x.net.Sights = slices.Delete(slices.Clone(x.net.Sights), n[0], n[0]+1)
	return fmt.Sprint("sights ", len(x.net.Sights)), api.OK
}

// checkBoth does a line with a station and with its model.
func checkBoth(t *testing.T, x *station.Station, y *model, line string) (string, api.Errno) {
	t.Helper()
	before := told(x)
	want, wantError := y.do(line)
	reply, e := x.Do(line)
	if reply != want || e != wantError {
		t.Fatalf("%q: %q, %d, not %q, %d", line, reply, e, want, wantError)
	}
	after := told(x)
	if e != api.OK && after != before {
		t.Fatalf("%q is refused and changes %s into %s", line, before, after)
	}
	if after != y.told() {
		t.Fatalf("%q: %s, not %s", line, after, y.told())
	}
	return reply, e
}
