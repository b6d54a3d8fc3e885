package ice

import (
	"slices"
	"sort"

	"firn/api"
)

const (
	maxStrength = 100000
	maxLamps    = api.MaxLayers * api.MaxThick
)

// lookBy is look for light of a strength.
func lookBy(i []api.Layer, strength int, depths ...int) (losses, api.Errno) {
	s, err := look(i, depths...)
	if err != api.OK {
		return nil, err
	}
	if !within(maxStrength, strength) {
		return nil, api.ErrArg
	}
	return s, api.OK
}

// Down returns the greatest depth to which the loss from a depth, downwards, is at most a strength.
func Down(i []api.Layer, from, strength int) (int, api.Errno) {
	_, to, err := Lit(i, from, strength)
	return to, err
}

// Up returns the least depth to which the loss from a depth, upwards, is at most a strength.
func Up(i []api.Layer, from, strength int) (int, api.Errno) {
	to, _, err := Lit(i, from, strength)
	return to, err
}

// Lit returns Up and Down.
func Lit(i []api.Layer, at, strength int) (from, to int, err api.Errno) {
	s, err := lookBy(i, strength, at)
	if err != api.OK {
		return 0, 0, err
	}
	return s.up(at, strength), s.down(at, strength), api.OK
}

// lamps returns the fewest lamps that light the ice, and for each one the metre
// for which it is there; nothing if there are none.
func (s losses) lamps(strength int) (lamps, metres []int) {
	for metre := 0; metre < s.depth(); {
		lamp := s.down(metre, strength)
		if lamp == metre {
			return nil, nil
		}
		lamps = append(lamps, lamp)
		metres = append(metres, metre)
		metre = s.down(lamp, strength)
	}
	return lamps, metres
}

// Lamps returns the fewest lamps that light the ice, each one as deep as it can be.
func Lamps(i []api.Layer, strength int) ([]int, api.Errno) {
	s, err := lookBy(i, strength)
	if err != api.OK {
		return nil, err
	}
	lamps, _ := s.lamps(strength)
	if lamps == nil {
		return nil, api.ErrNone
	}
	return lamps, api.OK
}

// Dark returns the metres that are the first ones not lit yet as Lamps comes about.
func Dark(i []api.Layer, strength int) ([]int, api.Errno) {
	s, err := lookBy(i, strength)
	if err != api.OK {
		return nil, err
	}
	_, metres := s.lamps(strength)
	if metres == nil {
		return nil, api.ErrNone
	}
	return metres, api.OK
}

// ascend reports whether numbers ascend strictly.
func ascend(numbers []int) bool {
	for n := 1; n < len(numbers); n++ {
		if numbers[n-1] >= numbers[n] {
			return false
		}
	}
	return true
}

// Light reports whether lamps light the ice.
func Light(i []api.Layer, strength int, lamps []int) (bool, api.Errno) {
	s, err := lookBy(i, strength, lamps...)
	if err != api.OK {
		return false, err
	}
	if !ascend(lamps) {
		return false, api.ErrArg
	}
	return len(lamps) <= maxLamps && s.light(strength, lamps), api.OK
}

// light reports whether lamps light the ice.
func (s losses) light(strength int, lamps []int) bool {
	metre := 0
	for _, lamp := range lamps {
		// What a lamp does not light above itself, none that is deeper lights.
		if s.up(lamp, strength) > metre {
			return false
		}
		metre = s.down(lamp, strength)
	}
	return metre == s.depth()
}

// AreDark reports whether metres are dark places.
func AreDark(i []api.Layer, strength int, places []int) (bool, api.Errno) {
	s, err := lookBy(i, strength)
	if err != api.OK {
		return false, err
	}
	if !within(s.depth()-1, places...) || !ascend(places) {
		return false, api.ErrArg
	}
	return s.areDark(strength, places), api.OK
}

// areDark reports whether no lamp lights two of some metres.
func (s losses) areDark(strength int, places []int) bool {
	for lamp := range s {
		first, _ := slices.BinarySearch(places, s.up(lamp, strength))
		behind, _ := slices.BinarySearch(places, s.down(lamp, strength))
		if behind-first > 1 {
			return false
		}
	}
	return true
}

// Least returns the least strength with which so many lamps can light the ice.
func Least(i []api.Layer, lamps int) (int, api.Errno) {
	s, err := look(i)
	if err != api.OK {
		return 0, err
	}
	if lamps < 1 || lamps > maxLamps {
		return 0, api.ErrArg
	}
	// With the whole loss one lamp is enough, wherever it is.
	return sort.Search(s.whole(), func(strength int) bool {
		fewest, _ := s.lamps(strength)
		return fewest != nil && len(fewest) <= lamps
	}), api.OK
}
