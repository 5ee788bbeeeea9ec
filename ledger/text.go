package ledger

import (
	"strconv"
	"strings"

	"noongun/api"
)

// What Digest begins with, and what it multiplies by.
const (
	digestBegin  = 14695981039346656037
	digestFactor = 1099511628211
)

// Digest returns the hash of the text of entries.
func Digest(l []api.Entry) uint64 {
	text := Format(l)
	hash := uint64(digestBegin)
	for i := range len(text) {
		hash = (hash ^ uint64(text[i])) * digestFactor
	}
	return hash
}

// Format returns the text of entries.
func Format(l []api.Entry) string {
	if !Valid(l) {
		return ""
	}
	var text strings.Builder
	for _, x := range l {
		text.WriteString(lineOf(x) + "\n")
	}
	return text.String()
}

// Parse reads a text of Format, or the empty text.
func Parse(s string) (l []api.Entry, line int, e api.Errno) {
	if len(s) > api.MaxText {
		return nil, 0, api.ErrLong
	}
	for s != "" {
		text, rest, ended := strings.Cut(s, "\n")
		x, right := entryOf(text)
		if !ended || !right || !isEntry(x) || len(l) == api.MaxEntries {
			return nil, len(l), api.ErrSyntax
		}
		l = append(l, x)
		s = rest
	}
	return l, 0, api.OK
}

func lineOf(x api.Entry) string {
	kind := "said"
	if x.Found {
		kind = "found"
	}
	return strconv.Itoa(x.Day) + " " + kind + " " + strconv.Itoa(x.Error)
}

// entryOf returns the entry of a line, which need not be valid, or false.
func entryOf(line string) (api.Entry, bool) {
	words := strings.Split(line, " ")
	if len(words) != 3 {
		return api.Entry{}, false
	}
	day, wrongDay := strconv.Atoi(words[0])
	n, wrongError := strconv.Atoi(words[2])
	if wrongDay != nil || wrongError != nil {
		return api.Entry{}, false
	}
	x := api.Entry{Day: day, Found: words[1] == "found", Error: n}
	// A kind that is neither, and numbers that Format would write in another way, do not come back the same.
	return x, lineOf(x) == line
}
