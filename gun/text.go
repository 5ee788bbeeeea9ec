package gun

import (
	"strconv"
	"strings"

	"noongun/api"
)

// Format returns the text of shots.
func Format(l []api.Shot) string {
	if !ValidShots(l) {
		return ""
	}
	var b strings.Builder
	for _, s := range l {
		b.WriteString(lineOf(s) + "\n")
	}
	return b.String()
}

// Parse reads a text of Format.
func Parse(s string) (l []api.Shot, line int, e api.Errno) {
	if len(s) > api.MaxText {
		return nil, 0, api.ErrLong
	}
	for s != "" {
		text, rest, ended := strings.Cut(s, "\n")
		shot, right := shotOf(text)
		if !ended || !right || len(l) == api.MaxGuns {
			return nil, len(l), api.ErrSyntax
		}
		l = append(l, shot)
		s = rest
	}
	return l, 0, api.OK
}

func lineOf(s api.Shot) string {
	line := strconv.Itoa(s.Gun.X)
	for _, n := range []int{s.Gun.Y, s.Lag.Lo, s.Lag.Hi} {
		line += " " + strconv.Itoa(n)
	}
	return line
}

// shotOf returns the valid shot of a line, or false.
func shotOf(line string) (api.Shot, bool) {
	words := strings.Split(line, " ")
	if len(words) != 4 {
		return api.Shot{}, false
	}
	var numbers [4]int
	for i, word := range words {
		n, err := strconv.Atoi(word)
		if err != nil {
			return api.Shot{}, false
		}
		numbers[i] = n
	}
	s := api.Shot{Gun: api.Point{X: numbers[0], Y: numbers[1]}, Lag: api.Span{Lo: numbers[2], Hi: numbers[3]}}
	// Numbers that Format would write in another way do not come back the same.
	return s, isShot(s) && lineOf(s) == line
}
