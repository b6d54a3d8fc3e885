package sky

import "firn/api"

// rings returns how many rings an order has.
func rings(order int) int {
	return 4*side(order) - 1
}

func validRing(order, ring int) bool {
	return validOrder(order) && 1 <= ring && ring <= rings(order)
}

// length returns the length of a ring.
func length(order, ring int) int {
	return 4 * min(ring, side(order), 4*side(order)-ring)
}

// ring returns the ring of a spot.
func (s spot) ring(order int) int {
	return (2+s.face/4)*side(order) - s.x - s.y - 1
}

// eighths returns where the middle of a face is on its rings, in eighths of a turn.
func (s spot) eighths() int {
	turned := 2 * (s.face % 4)
	if s.face/4 == 1 {
		return turned
	}
	return turned + 1
}

// place returns the place of a spot on its ring.
func (s spot) place(order int) int {
	ring := s.ring(order)
	quarter := length(order, ring) / 4
	twice := s.eighths()*quarter + s.x - s.y + 1
	// Every other one of the middle rings is turned by half a pixel.
	beyond := ring - side(order)
	if 0 <= beyond && beyond <= 2*side(order) && beyond%2 == 1 {
		twice++
	}
	// The face on which the middle rings begin lies on both sides of their first
	// place. No face reaches beyond their last one.
	if twice < 2 {
		return twice/2 + 4*side(order)
	}
	return twice / 2
}

// on returns the nested numbers of a ring's pixels, by their places.
func on(order, ring int) []int {
	l := make([]int, length(order, ring))
	for face := range faces {
		for x := range side(order) {
			s := spot{face: face, x: x}
			// A spot is as many rings before the one with y 0 as its y says.
			s.y = s.ring(order) - ring
			if 0 <= s.y && s.y < side(order) {
				l[s.place(order)-1] = s.nested(order)
			}
		}
	}
	return l
}

// berth is a ring, and a place on it.
type berth struct {
	ring, place int
}

// berthOf returns the ring of a pixel, and its place there.
func berthOf(c api.Cell) berth {
	s := spotOf(c)
	return berth{s.ring(c.Order), s.place(c.Order)}
}

// ringNumber returns the ring number of a pixel.
func ringNumber(c api.Cell) int {
	b := berthOf(c)
	before := 0
	for ring := 1; ring < b.ring; ring++ {
		before += length(c.Order, ring)
	}
	return before + b.place - 1
}

// fromRing returns the nested number of the pixel with a ring number.
func fromRing(order, number int) int {
	ring := 1
	for number >= length(order, ring) {
		number -= length(order, ring)
		ring++
	}
	return on(order, ring)[number]
}

// Ring returns the ring number of a nested one.
func Ring(order, pixel int) (int, api.Errno) {
	return told(order, pixel, ringNumber)
}

// FromRing returns the nested number of a ring one.
func FromRing(order, number int) (int, api.Errno) {
	if !validOrder(order) || number < 0 || number >= pixels(order) {
		return 0, api.ErrArg
	}
	return fromRing(order, number), api.OK
}

// RingOf returns the ring of a pixel, and its place there.
func RingOf(order, pixel int) (ring, place int, err api.Errno) {
	b, err := told(order, pixel, berthOf)
	return b.ring, b.place, err
}

// Length returns the length of a ring.
func Length(order, ring int) (int, api.Errno) {
	if !validRing(order, ring) {
		return 0, api.ErrArg
	}
	return length(order, ring), api.OK
}

// On returns the nested numbers of a ring's pixels, by their places.
func On(order, ring int) ([]int, api.Errno) {
	if !validRing(order, ring) {
		return nil, api.ErrArg
	}
	return on(order, ring), api.OK
}
