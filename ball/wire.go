package ball

import "noongun/api"

const (
	maxRelays = 20
	maxLag    = 10000
)

// ValidWire reports whether l has relays, not too many, and their numbers are as they must be.
func ValidWire(l []api.Relay) bool {
	if len(l) < 1 || len(l) > maxRelays {
		return false
	}
	for _, r := range l {
		if r.Lag < 0 || r.Lag > maxLag || r.Spread < 0 || r.Spread > r.Lag {
			return false
		}
	}
	return true
}

// Lag returns the span of the times that a wire can take.
func Lag(l []api.Relay) (api.Span, api.Errno) {
	if !ValidWire(l) {
		return api.Span{}, api.ErrInvalid
	}
	whole := joined(l)
	return api.Span{Lo: whole.Lag - whole.Spread, Hi: whole.Lag + whole.Spread}, api.OK
}

// Send returns when to send for a drop at a time.
func Send(l []api.Relay, at int) (int, api.Errno) {
	if !ValidWire(l) {
		return 0, api.ErrInvalid
	}
	if !isTime(at) {
		return 0, api.ErrRange
	}
	sent := at - joined(l).Lag
	if sent < 0 {
		return 0, api.ErrNone
	}
	return sent, api.OK
}

// Falls returns the span of the times at which a ball can fall that was sent for at a time.
func Falls(l []api.Relay, sent int) (api.Span, api.Errno) {
	lag, e := Lag(l)
	if e != api.OK {
		return api.Span{}, e
	}
	if !isTime(sent) {
		return api.Span{}, api.ErrRange
	}
	return api.Span{Lo: sent + lag.Lo, Hi: sent + lag.Hi}, api.OK
}

// Sure reports whether a ball that is sent for at the right time surely falls in time.
func Sure(x api.Mast, l []api.Relay) (bool, api.Errno) {
	if !ValidMast(x) || !ValidWire(l) {
		return false, api.ErrInvalid
	}
	return joined(l).Spread <= x.Late, api.OK
}

// joined returns one relay in place of all of a wire.
func joined(l []api.Relay) api.Relay {
	var whole api.Relay
	for _, r := range l {
		whole.Lag += r.Lag
		whole.Spread += r.Spread
	}
	return whole
}
