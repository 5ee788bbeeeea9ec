package flag

import (
	"strconv"
	"strings"

	"noongun/api"
)

// Format returns the text of a book.
func Format(b []api.Meaning) string {
	if !ValidBook(b) {
		return ""
	}
	var text strings.Builder
	for _, m := range b {
		text.WriteString(lineOf(m) + "\n")
	}
	return text.String()
}

// Parse reads a text of Format.
func Parse(s string) (b []api.Meaning, line int, e api.Errno) {
	if len(s) > api.MaxText {
		return nil, 0, api.ErrLong
	}
	for s != "" {
		text, rest, ended := strings.Cut(s, "\n")
		m, right := meaningOf(text)
		if !ended || !right || !follows(b, m) {
			return nil, len(b), api.ErrSyntax
		}
		b = append(b, m)
		s = rest
	}
	return b, 0, api.OK
}

func lineOf(m api.Meaning) string {
	return strconv.Itoa(m.Number) + " " + m.Text
}

// meaningOf returns the meaning of a line, which need not be valid, or false.
func meaningOf(line string) (api.Meaning, bool) {
	number, text, _ := strings.Cut(line, " ")
	n, err := strconv.Atoi(number)
	if err != nil {
		return api.Meaning{}, false
	}
	m := api.Meaning{Number: n, Text: text}
	// Numbers that Format would write in another way do not come back the same.
	return m, lineOf(m) == line
}
