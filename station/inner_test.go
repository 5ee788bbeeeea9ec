package station

import (
	"testing"

	"noongun/api"
)

// No book has lines enough for the last day, so that these stations are not made by lines.
func TestLastDay(t *testing.T) {
	for _, c := range []struct {
		day   int
		reply string
		e     api.Errno
	}{{10999, "silent", api.OK}, {11000, "", api.ErrLimit}, {11001, "", api.ErrLimit}} {
		x, _ := New(api.Mast{Noon: 43200000, Half: 300000, Full: 120000, Late: 200, Again: 3600000, Wind: 60}, []int{0, 10000})
		x.verdicts = make([]int, c.day)
		reply, e := x.Do("close")
		if reply != c.reply || e != c.e {
			t.Error(c, reply, e)
		}
		if _, e := x.Do("sight 86399999 1 0 5 6"); e != api.OK { // its time is one of the net, at the last day too
			t.Error(c, e)
		}
	}
}
