package clocks

import "metronome/api"

// clock is a clock from its innermost sampling on; nil is the base clock. An expression adds a sampling or takes one away, and shares the others with what is around it.
type clock struct {
	on   api.On
	rest *clock
}

// clockOf is a clock that is listed from its outermost sampling on.
func clockOf(l []api.On) *clock {
	var ck *clock
	for _, on := range l {
		ck = &clock{on: on, rest: ck}
	}
	return ck
}

// same: are two clocks one? What they share needs no second look.
func (ck *clock) same(other *clock) bool {
	for ck != other && ck != nil && other != nil && ck.on == other.on {
		ck, other = ck.rest, other.rest
	}
	return ck == other
}
