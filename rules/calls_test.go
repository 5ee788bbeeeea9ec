package rules

import (
	"noongun/api"
	"noongun/ball"
	"noongun/flag"
	"noongun/gun"
	"noongun/ledger"
	"noongun/night"
	"noongun/rate"
	"noongun/sight"
	"noongun/span"
	"noongun/station"
	"noongun/transit"
)

// The calls that the chapters list: where one is missing, or has another signature, this does not compile.
var (
	_ func(a api.Ratio) bool                              = span.ValidRatio
	_ func(n, d int) (api.Ratio, api.Errno)               = span.Make
	_ func(a, b api.Ratio) (api.Ratio, api.Errno)         = span.Add
	_ func(a, b api.Ratio) (api.Ratio, api.Errno)         = span.Sub
	_ func(a, b api.Ratio) (api.Ratio, api.Errno)         = span.Mul
	_ func(a, b api.Ratio) int                            = span.Compare
	_ func(a api.Ratio) (int, api.Errno)                  = span.Floor
	_ func(s api.Span) bool                               = span.ValidSpan
	_ func(a, b api.Span) (api.Span, api.Errno)           = span.Sum
	_ func(a api.Span) (api.Span, api.Errno)              = span.Opposite
	_ func(a api.Span, r api.Ratio) (api.Span, api.Errno) = span.Scaled
	_ func(a, b api.Span) (api.Span, api.Errno)           = span.Meet
	_ func(a, b api.Span) (api.Span, api.Errno)           = span.Hull
	_ func(a api.Span, by int) (api.Span, api.Errno)      = span.Wider
	_ func(year int) bool                                 = span.Leap
	_ func(d api.Date) (int, api.Errno)                   = span.DayOf
	_ func(day int) (api.Date, api.Errno)                 = span.DateOf
	_ func(day int) (int, api.Errno)                      = span.Weekday
	_ func(t int) (int, api.Errno)                        = span.Sidereal
	_ func(s int) (int, api.Errno)                        = span.Mean
	_ func(ms int) string                                 = span.Clock
	_ func(s string) (int, api.Errno)                     = span.ParseClock
)

var (
	_ func(x api.Net) bool                                 = sight.Valid
	_ func(x api.Net, clock, dt int) (int, api.Errno)      = sight.Carry
	_ func(x api.Net) (bool, api.Errno)                    = sight.Consistent
	_ func(x api.Net) ([]int, api.Errno)                   = sight.Conflict
	_ func(x api.Net, l []int) bool                        = sight.Proves
	_ func(x api.Net, clock, at int) (api.Span, api.Errno) = sight.Error
	_ func(x api.Net, a, b, at int) (api.Span, api.Errno)  = sight.Between
	_ func(x api.Net, at int) (int, api.Errno)             = sight.Best
	_ func(x api.Net, clock, at int) (int, api.Errno)      = sight.Width
	_ func(x api.Net, i int) (bool, api.Errno)             = sight.Implied
	_ func(x api.Net) (api.Net, api.Errno)                 = sight.Tight
	_ func(x api.Net) ([]int, api.Errno)                   = sight.Needed
	_ func(x api.Net, s api.Sight) (api.Net, api.Errno)    = sight.Added
	_ func(x api.Net, i int) (api.Net, api.Errno)          = sight.Without
	_ func(x api.Net, clock, by int) (api.Net, api.Errno)  = sight.Shifted
	_ func(x api.Net, clock int) (int, api.Errno)          = sight.Last
	_ func(x api.Net) ([]int, api.Errno)                   = sight.Joined
	_ func(x api.Net) string                               = sight.Format
	_ func(s string) (x api.Net, line int, e api.Errno)    = sight.Parse
)

var (
	_ func(s api.Star) bool                                               = transit.ValidStar
	_ func(x api.Tube) bool                                               = transit.ValidTube
	_ func(x api.Tube, t api.Transit) bool                                = transit.Fits
	_ func(x api.Tube, t api.Transit) (int, api.Errno)                    = transit.Crossing
	_ func(d int) (int, api.Errno)                                        = transit.Folded
	_ func(x api.Tube, t api.Transit) (int, api.Errno)                    = transit.Difference
	_ func(x api.Tube, l []api.Transit) (bool, api.Errno)                 = transit.Agree
	_ func(x api.Tube, l []api.Transit) (api.Reach, api.Errno)            = transit.Reach
	_ func(x api.Tube, l []api.Transit) (api.Reach, api.Errno)            = transit.Azimuth
	_ func(x api.Tube, l []api.Transit, e, a api.Ratio) (bool, api.Errno) = transit.Suits
	_ func(x api.Tube, l []api.Transit) ([]int, api.Errno)                = transit.Least
	_ func(x api.Tube, l []api.Transit) ([]int, api.Errno)                = transit.Most
	_ func(x api.Tube, l []api.Transit) (int, api.Errno)                  = transit.Odd
	_ func(x api.Tube, l []api.Transit) (int, api.Errno)                  = transit.Tightest
	_ func(x api.Tube, s api.Star, at int) (api.Transit, api.Errno)       = transit.Wired
	_ func(l []api.Transit, by int) ([]api.Transit, api.Errno)            = transit.Moved
	_ func(l []api.Star) string                                           = transit.Format
	_ func(s string) (l []api.Star, line int, e api.Errno)                = transit.Parse
)

var (
	_ func(x api.Mast) bool                                           = ball.ValidMast
	_ func(x api.Mast) ([]api.Event, api.Errno)                       = ball.Plan
	_ func(x api.Mast) ([]api.Event, api.Errno)                       = ball.Second
	_ func(x api.Mast, s api.Ball, e api.Event) (api.Ball, api.Errno) = ball.Next
	_ func(x api.Mast, l []api.Event) (api.Ball, int, api.Errno)      = ball.Run
	_ func(x api.Mast, s api.Ball, at int) ([]int, api.Errno)         = ball.May
	_ func(x api.Mast, l []api.Event) (int, api.Errno)                = ball.Verdict
	_ func(x api.Mast, l []api.Event) (int, api.Errno)                = ball.Off
	_ func(v int) bool                                                = ball.Fault
	_ func(v int) string                                              = ball.Word
	_ func(verdicts []int) ([6]int, api.Errno)                        = ball.Count
	_ func(l []api.Relay) bool                                        = ball.ValidWire
	_ func(l []api.Relay) (api.Span, api.Errno)                       = ball.Lag
	_ func(l []api.Relay, at int) (int, api.Errno)                    = ball.Send
	_ func(l []api.Relay, sent int) (api.Span, api.Errno)             = ball.Falls
	_ func(x api.Mast, l []api.Relay) (bool, api.Errno)               = ball.Sure
	_ func(l []api.Event) string                                      = ball.Format
	_ func(s string) (l []api.Event, line int, e api.Errno)           = ball.Parse
)

var (
	_ func(a api.Air) bool                                                               = gun.ValidAir
	_ func(t int) (int, api.Errno)                                                       = gun.SpeedAt
	_ func(n int) (int, api.Errno)                                                       = gun.Root
	_ func(p, q api.Point) (lo, hi int, e api.Errno)                                     = gun.Distance
	_ func(a api.Air, p, q api.Point) (api.Span, api.Errno)                              = gun.Lag
	_ func(a api.Air, gun, at api.Point, fired int) (api.Span, api.Errno)                = gun.Heard
	_ func(a api.Air, gun, at api.Point, heard int) (api.Span, api.Errno)                = gun.Corrected
	_ func(l []api.Shot) bool                                                            = gun.ValidShots
	_ func(a api.Air, l []api.Shot, at api.Point) (bool, api.Errno)                      = gun.Suits
	_ func(a api.Air, l []api.Shot, lo, hi api.Point, step int) ([]api.Point, api.Errno) = gun.Where
	_ func(a api.Air, l []api.Shot, lo, hi api.Point) (bool, api.Errno)                  = gun.Excluded
	_ func(a api.Air, guns []api.Point, at api.Point) (int, api.Errno)                   = gun.First
	_ func(a api.Air, gun api.Point, lag int) (least, most int, e api.Errno)             = gun.Ring
	_ func(a api.Air, gun api.Point, l []api.Point) ([]api.Span, api.Errno)              = gun.Table
	_ func(a api.Air, gun, p, q api.Point) (bool, api.Errno)                             = gun.Alike
	_ func(l []api.Shot) ([]api.Shot, api.Errno)                                         = gun.Mirrored
	_ func(l []api.Shot) string                                                          = gun.Format
	_ func(s string) (l []api.Shot, line int, e api.Errno)                               = gun.Parse
)

var (
	_ func(b api.Box) bool                                            = rate.ValidBox
	_ func(l []api.Box) bool                                          = rate.ValidBoxes
	_ func(b api.Box) ([]int, api.Errno)                              = rate.Daily
	_ func(b api.Box) ([]int, api.Errno)                              = rate.Weekly
	_ func(b api.Box) (api.Ratio, api.Errno)                          = rate.Mean
	_ func(b api.Box) (api.Trial, api.Errno)                          = rate.Trial
	_ func(l []api.Box) ([]api.Trial, api.Errno)                      = rate.Ranked
	_ func(l []api.Box, most int) ([]string, api.Errno)               = rate.Passed
	_ func(l []api.Trial, prices []int, money int) ([]int, api.Errno) = rate.Bought
	_ func(b api.Box, last, days int) (api.Span, api.Errno)           = rate.Ahead
	_ func(b api.Box, most int) ([]int, api.Errno)                    = rate.Leaps
	_ func(t1, r1, t2, r2, t int) (api.Ratio, api.Errno)              = rate.Warm
	_ func(l []api.Box) (int, api.Errno)                              = rate.Odd
	_ func(ms int) (seconds, rest int, e api.Errno)                   = rate.Arc
	_ func(r api.Span, most int) (int, api.Errno)                     = rate.Days
	_ func(b api.Box, by, per int) (api.Box, api.Errno)               = rate.Shifted
	_ func(a, b api.Box) (api.Box, api.Errno)                         = rate.Joined
	_ func(l []api.Box) string                                        = rate.Format
	_ func(s string) (l []api.Box, line int, e api.Errno)             = rate.Parse
)

var (
	_ func(l []int) bool                                      = flag.ValidDigits
	_ func(h []int) bool                                      = flag.ValidHoist
	_ func(h []int) ([]int, api.Errno)                        = flag.Means
	_ func(digits []int) ([]int, api.Errno)                   = flag.Hoist
	_ func(digits []int, flags int) ([][]int, api.Errno)      = flag.Hoists
	_ func(digits []int, flags int) ([]int, api.Errno)        = flag.With
	_ func(length, flags int) (int, api.Errno)                = flag.Can
	_ func(h []int) (int, api.Errno)                          = flag.Flags
	_ func(digits []int, flags int) ([]int, api.Errno)        = flag.Missed
	_ func(n int) ([]int, api.Errno)                          = flag.Digits
	_ func(l []int) (int, api.Errno)                          = flag.Number
	_ func(l []int) ([]int, api.Errno)                        = flag.Turned
	_ func(l []int) ([]int, api.Errno)                        = flag.Checked
	_ func(l []int) (bool, api.Errno)                         = flag.Right
	_ func(a, b int) (int, api.Errno)                         = flag.Distance
	_ func(b []api.Meaning) bool                              = flag.ValidBook
	_ func(b []api.Meaning, h []int) (string, api.Errno)      = flag.Look
	_ func(b []api.Meaning, text string) (int, api.Errno)     = flag.Find
	_ func(b []api.Meaning, d int) ([][2]int, api.Errno)      = flag.Close
	_ func(b []api.Meaning) ([][2]int, api.Errno)             = flag.Traps
	_ func(b []api.Meaning, flags int) ([]int, api.Errno)     = flag.Lost
	_ func(b []api.Meaning) string                            = flag.Format
	_ func(s string) (b []api.Meaning, line int, e api.Errno) = flag.Parse
)

var (
	_ func(l []api.Chance) bool                                              = night.Valid
	_ func(l []api.Chance, clouds []api.Span) ([]int, api.Errno)             = night.Clear
	_ func(a, b api.Chance, per int) (int, api.Errno)                        = night.Turn
	_ func(a, b api.Chance, per int) (bool, api.Errno)                       = night.Follows
	_ func(l []api.Chance, clouds []api.Span, per int, list []int) bool      = night.Right
	_ func(l []api.Chance, list []int) (int, api.Errno)                      = night.Worth
	_ func(l []api.Chance, clouds []api.Span, per int) ([]int, api.Errno)    = night.Best
	_ func(l []api.Chance, clouds []api.Span, per int, list []int) bool      = night.IsBest
	_ func(l []api.Chance, clouds []api.Span, per int) (int, api.Errno)      = night.Most
	_ func(l []api.Chance, clouds []api.Span, per, i int) ([]int, api.Errno) = night.With
	_ func(l []api.Chance, per int) ([][2]int, api.Errno)                    = night.Clashes
	_ func(l []api.Chance, per int, list []int) (int, api.Errno)             = night.Idle
	_ func(observers int, l []api.Sight) ([]int, api.Errno)                  = night.Habits
	_ func(observers int, l []api.Sight) ([]int, api.Errno)                  = night.Circle
	_ func(can []int, observers, most int) ([]int, api.Errno)                = night.Rota
	_ func(can []int, observers, most int, rota []int) bool                  = night.IsRota
	_ func(can []int, observers, most int) (int, api.Errno)                  = night.Rotas
	_ func(l []api.Chance) string                                            = night.Format
	_ func(s string) (l []api.Chance, line int, e api.Errno)                 = night.Parse
)

var (
	_ func(l []api.Entry) bool                                        = ledger.Valid
	_ func(l []api.Entry, day int) (int, api.Errno)                   = ledger.Said
	_ func(l []api.Entry, day int) (int, api.Errno)                   = ledger.Found
	_ func(l []api.Entry, day int) (int, api.Errno)                   = ledger.Off
	_ func(l []api.Entry) ([]int, api.Errno)                          = ledger.Days
	_ func(l []api.Entry) ([]int, api.Errno)                          = ledger.Unfound
	_ func(l []api.Entry) ([]int, api.Errno)                          = ledger.Corrections
	_ func(l []api.Entry, from, to int) (int, api.Errno)              = ledger.Sum
	_ func(l []api.Entry, from, to int) (api.Ratio, api.Errno)        = ledger.Mean
	_ func(l []api.Entry) (int, api.Errno)                            = ledger.Worst
	_ func(l []api.Entry, within int) (from, length int, e api.Errno) = ledger.Streak
	_ func(l []api.Entry, within int) ([]int, api.Errno)              = ledger.Letters
	_ func(l []api.Entry, from, to int) (int, api.Errno)              = ledger.Rated
	_ func(l []api.Entry, within, pence int) (int, api.Errno)         = ledger.Fine
	_ func(l []api.Entry, x api.Entry) ([]api.Entry, api.Errno)       = ledger.Added
	_ func(a, b []api.Entry) ([]api.Entry, api.Errno)                 = ledger.Merged
	_ func(l []api.Entry) ([]api.Entry, api.Errno)                    = ledger.Last
	_ func(l []api.Entry, by int) ([]api.Entry, api.Errno)            = ledger.Shifted
	_ func(l []api.Entry) uint64                                      = ledger.Digest
	_ func(l []api.Entry) string                                      = ledger.Format
	_ func(s string) (l []api.Entry, line int, e api.Errno)           = ledger.Parse
)

var (
	_ func(m api.Mast, rates []int) (*station.Station, api.Errno)                   = station.New
	_ func(x *station.Station, line string) (string, api.Errno)                     = (*station.Station).Do
	_ func(x *station.Station) int                                                  = (*station.Station).Day
	_ func(x *station.Station) api.Net                                              = (*station.Station).Net
	_ func(x *station.Station) []api.Event                                          = (*station.Station).Log
	_ func(x *station.Station) api.Ball                                             = (*station.Station).Ball
	_ func(x *station.Station) []int                                                = (*station.Station).Verdicts
	_ func(x *station.Station) []api.Entry                                          = (*station.Station).Ledger
	_ func(x *station.Station) int                                                  = (*station.Station).Flags
	_ func(x *station.Station) string                                               = (*station.Station).Book
	_ func(x *station.Station) *station.Station                                     = (*station.Station).Copy
	_ func(m api.Mast, rates []int, book string) (*station.Station, int, api.Errno) = station.Replay
	_ func(m api.Mast, rates []int, book string) ([]string, api.Errno)              = station.Replies
	_ func(book string) (l []api.Line, torn bool, e api.Errno)                      = station.Lines
	_ func(a, b string) (same int, e api.Errno)                                     = station.Parting
	_ func(m api.Mast, rates []int, book string) ([]int, api.Errno)                 = station.Faults
)
