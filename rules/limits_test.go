package rules

import (
	"testing"

	"noongun/api"
)

func TestErrors(t *testing.T) {
	for want, got := range []api.Errno{
		api.OK, api.ErrInvalid, api.ErrSyntax, api.ErrLong, api.ErrLimit, api.ErrName, api.ErrDuplicate, api.ErrRange,
		api.ErrNone, api.ErrState, api.ErrFlag, api.ErrSum, api.ErrCommand,
	} {
		if int(got) != want {
			t.Error("error", want, "is", got)
		}
	}
}

func TestLimits(t *testing.T) {
	for _, c := range []struct {
		name      string
		got, want int
	}{
		{"MaxTime", api.MaxTime, 1000000000000}, {"MaxRatio", api.MaxRatio, 1000000000}, {"MaxClocks", api.MaxClocks, 8}, {"MaxSights", api.MaxSights, 30},
		{"MaxRate", api.MaxRate, 1000000}, {"MaxWires", api.MaxWires, 7}, {"MaxTransits", api.MaxTransits, 12}, {"MaxFactor", api.MaxFactor, 10000},
		{"MaxEvents", api.MaxEvents, 100}, {"MaxMetres", api.MaxMetres, 50000}, {"MaxGuns", api.MaxGuns, 6}, {"MaxDays", api.MaxDays, 400},
		{"MaxBoxes", api.MaxBoxes, 16}, {"MaxHoist", api.MaxHoist, 4}, {"MaxBook", api.MaxBook, 200}, {"MaxStars", api.MaxStars, 20},
		{"MaxEntries", api.MaxEntries, 1000}, {"MaxName", api.MaxName, 16}, {"MaxText", api.MaxText, 65536}, {"MaxLines", api.MaxLines, 2000}, {"Day", api.Day, 86400000},
	} {
		if c.got != c.want {
			t.Error(c.name, c.got, c.want)
		}
	}
}
