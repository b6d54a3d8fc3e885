package cone

import "firn/api"

// maxWithin is the greatest difference of two times.
const maxWithin = 2 * api.MaxPlace

func validWithin(w int) bool {
	return 0 <= w && w <= maxWithin
}

// within returns how many hits have times from a time on, for w.
func (o order) within(from, w int) int {
	n := 0
	for _, hit := range o {
		if from <= hit.Time && hit.Time <= from+w {
			n++
		}
	}
	return n
}

// Most returns the greatest number of hits within w, and the least time of a hit
// from which on there are so many.
func Most(h []api.Hit, w int) (int, int, api.Errno) {
	if !Valid(h) {
		return 0, 0, api.ErrHits
	}
	if !validWithin(w) {
		return 0, 0, api.ErrArg
	}
	o := order(h)
	most, time := 0, 0
	// A time that is not one of a hit need not be tried: from the next hit on
	// there are as many.
	for _, a := range o.byTime() {
		if n := o.within(o[a].Time, w); n > most {
			most, time = n, o[a].Time
		}
	}
	return most, time, api.OK
}

// Trigger returns the least time of a hit that is a trigger of n hits within w.
func Trigger(h []api.Hit, n, w int) (int, api.Errno) {
	if !Valid(h) {
		return 0, api.ErrHits
	}
	if !validWithin(w) || n < 1 || n > api.MaxHits {
		return 0, api.ErrArg
	}
	o := order(h)
	for _, a := range o.byTime() {
		if o.within(o[a].Time, w) >= n {
			return o[a].Time, api.OK
		}
	}
	return 0, api.ErrNone
}
