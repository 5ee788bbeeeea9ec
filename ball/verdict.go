package ball

import (
	"slices"

	"noongun/api"
)

var words = [...]string{
	api.VGood: "good", api.VWrong: "wrong", api.VFalse: "false", api.VAgain: "again", api.VTold: "told", api.VSilent: "silent",
}

// Verdict returns what the noon of a log was.
func Verdict(x api.Mast, l []api.Event) (int, api.Errno) {
	if _, _, e := Run(x, l); e != api.OK {
		return 0, e
	}
	first := firstDrop(l)
	if first < 0 {
		return told(l, api.VTold, api.VSilent), api.OK
	}
	if inTime(x, x.Noon)(l[first]) {
		return api.VGood, api.OK
	}
	// A drop that is in time for the second noon is also behind the time of its raising, since Half is above Late.
	if slices.ContainsFunc(l[:first], isOf(api.EFlag)) && inTime(x, again(x))(l[first]) {
		return api.VAgain, api.OK
	}
	return told(l[first:], api.VWrong, api.VFalse), api.OK
}

// Off returns by how much the first drop was late.
func Off(x api.Mast, l []api.Event) (int, api.Errno) {
	verdict, e := Verdict(x, l)
	if e != api.OK {
		return 0, e
	}
	first := firstDrop(l)
	if first < 0 {
		return 0, api.ErrNone
	}
	if verdict == api.VAgain {
		return l[first].At - again(x), api.OK
	}
	return l[first].At - x.Noon, api.OK
}

// Fault reports whether a verdict is a fault of which nothing told.
func Fault(v int) bool {
	return v == api.VFalse || v == api.VSilent
}

// Word returns the word of a verdict.
func Word(v int) string {
	if !isVerdict(v) {
		return ""
	}
	return words[v]
}

// Count returns how often each verdict is in a list.
func Count(verdicts []int) ([6]int, api.Errno) {
	var count [6]int
	for _, v := range verdicts {
		if !isVerdict(v) {
			return [6]int{}, api.ErrRange
		}
		count[v]++
	}
	return count, api.OK
}

// firstDrop returns where the first drop of a log is, or a number below 0.
func firstDrop(l []api.Event) int {
	return slices.IndexFunc(l, isOf(api.EDrop))
}

// told returns the one verdict if the flag is among events, or else the other.
func told(l []api.Event, with, without int) int {
	if slices.ContainsFunc(l, isOf(api.EFlag)) {
		return with
	}
	return without
}

func isOf(kind int) func(api.Event) bool {
	return func(e api.Event) bool { return e.Kind == kind }
}

func inTime(x api.Mast, noon int) func(api.Event) bool {
	return func(e api.Event) bool { return e.At >= noon-x.Late && e.At <= noon+x.Late }
}

func isVerdict(v int) bool {
	return v >= 0 && v < len(words)
}
