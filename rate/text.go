package rate

import (
	"strconv"
	"strings"

	"noongun/api"
)

// Format returns the text of boxes.
func Format(l []api.Box) string {
	if !ValidBoxes(l) {
		return ""
	}
	var text strings.Builder
	for _, b := range l {
		text.WriteString(lineOf(b) + "\n")
	}
	return text.String()
}

// Parse reads a text of Format, or the empty text.
func Parse(s string) (l []api.Box, line int, e api.Errno) {
	if len(s) > api.MaxText {
		return nil, 0, api.ErrLong
	}
	for s != "" {
		text, rest, ended := strings.Cut(s, "\n")
		box, right := boxOf(text)
		before := len(l)
		l = append(l, box)
		if !ended || !right || !ValidBoxes(l) {
			return nil, before, api.ErrSyntax
		}
		s = rest
	}
	return l, 0, api.OK
}

func lineOf(b api.Box) string {
	words := make([]string, 0, 1+len(b.Errors))
	words = append(words, b.Name)
	for _, n := range b.Errors {
		words = append(words, strconv.Itoa(n))
	}
	return strings.Join(words, " ")
}

// boxOf returns the box of a line, which need not be valid, or false.
func boxOf(line string) (api.Box, bool) {
	words := strings.Split(line, " ")
	box := api.Box{Name: words[0]}
	for _, word := range words[1:] {
		n, err := strconv.Atoi(word)
		if err != nil {
			return api.Box{}, false
		}
		box.Errors = append(box.Errors, n)
	}
	// Numbers that Format would write in another way do not come back the same.
	return box, lineOf(box) == line
}
