package ball

import (
	"strconv"
	"strings"

	"noongun/api"
)

// Format returns the text of a list of events.
func Format(l []api.Event) string {
	var b strings.Builder
	for i, e := range l {
		if !follows(l[:i], e) {
			return ""
		}
		b.WriteString(lineOf(e) + "\n")
	}
	return b.String()
}

// Parse reads a text of Format.
func Parse(s string) (l []api.Event, line int, e api.Errno) {
	if len(s) > api.MaxText {
		return nil, 0, api.ErrLong
	}
	for s != "" {
		text, rest, ended := strings.Cut(s, "\n")
		event, right := eventOf(text)
		if !ended || !right || !follows(l, event) {
			return nil, len(l), api.ErrSyntax
		}
		l = append(l, event)
		s = rest
	}
	return l, 0, api.OK
}

// follows reports whether an event may stand behind those of a text.
func follows(l []api.Event, e api.Event) bool {
	if len(l) >= api.MaxEvents || !isEvent(e) {
		return false
	}
	return len(l) == 0 || l[len(l)-1].At <= e.At
}

func lineOf(e api.Event) string {
	return strconv.Itoa(e.At) + " " + strconv.Itoa(e.Kind) + " " + strconv.Itoa(e.N)
}

// eventOf returns the event of a line, or false.
func eventOf(line string) (api.Event, bool) {
	parts := strings.Split(line, " ")
	if len(parts) != 3 {
		return api.Event{}, false
	}
	var numbers [3]int
	for i, part := range parts {
		n, err := strconv.Atoi(part)
		if err != nil {
			return api.Event{}, false
		}
		numbers[i] = n
	}
	e := api.Event{At: numbers[0], Kind: numbers[1], N: numbers[2]}
	// Numbers that Format would write in another way do not come back the same.
	return e, lineOf(e) == line
}
