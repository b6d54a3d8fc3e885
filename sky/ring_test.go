package sky

import (
	"cmp"
	"slices"
	"testing"

	"firn/api"
)

// mapped is a pixel on a map of the sky: how far it is from the north, and how far
// around, in steps of which a turn has 8 times as many as a face has pixels along
// a side.
type mapped struct {
	pixel, down, around int
}

// mapOf returns the pixels of an order as one reads them on a map, from the north
// to the south, and around. The middles of the faces of the first and of the last
// four are by a half of a face further around than those of the others.
func mapOf(order int) []mapped {
	side := 1 << order
	var all []mapped
	spots(order, func(pixel, face, x, y int) {
		top := []int{0, side, 2 * side}[face/4]
		around := []int{1, 0, 1}[face/4]*side + face%4*2*side
		all = append(all, mapped{pixel, top + 2*side - 1 - x - y, (around + x - y + 8*side) % (8 * side)})
	})
	slices.SortFunc(all, func(a, b mapped) int {
		return cmp.Or(cmp.Compare(a.down, b.down), cmp.Compare(a.around, b.around))
	})
	return all
}

// TestRingsByHand: P6.2, P6.3 and the chapter's examples.
func TestRingsByHand(t *testing.T) {
	for _, c := range []struct{ order, pixel, ring, place, number int }{
		{0, 0, 1, 1, 0}, {0, 3, 1, 4, 3}, {0, 4, 2, 1, 4}, {0, 7, 2, 4, 7}, {0, 8, 3, 1, 8}, {0, 11, 3, 4, 11},
		{1, 3, 1, 1, 0}, {1, 0, 3, 2, 13}, {1, 1, 2, 2, 5}, {1, 2, 2, 1, 4}, {1, 18, 4, 8, 27}, {1, 44, 7, 4, 47},
		{4, 255, 1, 1, 0}, {4, 3 * 256, 31, 57, 2*15*16 + 15*64 + 56}, {4, 11 * 256, 63, 4, 3071},
		{4, 4*256 + 170, 32, 57, 2*15*16 + 16*64 + 56}, {4, 4*256 + 85, 32, 8, 2*15*16 + 16*64 + 7},
	} {
		ring, place, err := RingOf(c.order, c.pixel)
		if ring != c.ring || place != c.place || err != api.OK {
			t.Errorf("RingOf(%d, %d): %d, %d, %d, want %d, %d", c.order, c.pixel, ring, place, err, c.ring, c.place)
		}
		if n, err := Ring(c.order, c.pixel); n != c.number || err != api.OK {
			t.Errorf("Ring(%d, %d): %d, %d, want %d", c.order, c.pixel, n, err, c.number)
		}
		if p, err := FromRing(c.order, c.number); p != c.pixel || err != api.OK {
			t.Errorf("FromRing(%d, %d): %d, %d, want %d", c.order, c.number, p, err, c.pixel)
		}
	}
}

// TestRingsOfOrder1: P6.2, all ring numbers of the order 1.
func TestRingsOfOrder1(t *testing.T) {
	for pixel, want := range []int{
		13, 5, 4, 0, 15, 7, 6, 1, 17, 9, 8, 2, 19, 11, 10, 3,
		28, 20, 27, 12, 30, 22, 21, 14, 32, 24, 23, 16, 34, 26, 25, 18,
		44, 37, 36, 29, 45, 39, 38, 31, 46, 41, 40, 33, 47, 43, 42, 35,
	} {
		if n, err := Ring(1, pixel); n != want || err != api.OK {
			t.Errorf("Ring(1, %d): %d, %d, want %d", pixel, n, err, want)
		}
	}
}

// TestRings: P6.2, P6.3 and P6.7, against the map.
func TestRings(t *testing.T) {
	for order := range counts {
		var on [][]int // the pixels of the rings
		for number, m := range mapOf(order) {
			if m.down > len(on) {
				on = append(on, nil)
			}
			on[m.down-1] = append(on[m.down-1], m.pixel)
			ring, place, err := RingOf(order, m.pixel)
			if ring != m.down || place != len(on[m.down-1]) || err != api.OK {
				t.Fatalf("RingOf(%d, %d): %d, %d, %d, want %d, %d", order, m.pixel, ring, place, err, m.down, len(on[m.down-1]))
			}
			if n, err := Ring(order, m.pixel); n != number || err != api.OK {
				t.Fatalf("Ring(%d, %d): %d, %d, want %d", order, m.pixel, n, err, number)
			}
			if p, err := FromRing(order, number); p != m.pixel || err != api.OK {
				t.Fatalf("FromRing(%d, %d): %d, %d, want %d", order, number, p, err, m.pixel)
			}
		}
		total := 0
		for n, want := range on {
			if l, err := On(order, n+1); !slices.Equal(l, want) || err != api.OK {
				t.Fatalf("On(%d, %d): %v, %d, want %v", order, n+1, l, err, want)
			}
			length, err := Length(order, n+1)
			if length != len(want) || err != api.OK {
				t.Fatalf("Length(%d, %d): %d, %d, want %d", order, n+1, length, err, len(want))
			}
			total += length
		}
		if side := 1 << order; len(on) != 4*side-1 || total != counts[order] {
			t.Errorf("order %d: %d rings, %d pixels", order, len(on), total)
		}
	}
}

// TestLength: P6.3, by the terms of the chapter.
func TestLength(t *testing.T) {
	for order := range counts {
		side := 1 << order
		for ring := 1; ring <= 4*side-1; ring++ {
			want := 4 * side
			if ring < side {
				want = 4 * ring
			} else if ring > 3*side {
				want = 4 * (4*side - ring)
			}
			if n, err := Length(order, ring); n != want || err != api.OK {
				t.Errorf("Length(%d, %d): %d, %d, want %d", order, ring, n, err, want)
			}
		}
	}
}

// TestPlaces: P6.3, the place by the terms of the chapter.
func TestPlaces(t *testing.T) {
	for order := range counts {
		side := 1 << order
		spots(order, func(pixel, face, x, y int) {
			a := []int{2, 2, 2, 2, 3, 3, 3, 3, 4, 4, 4, 4}[face]
			b := []int{1, 3, 5, 7, 0, 2, 4, 6, 1, 3, 5, 7}[face]
			ring := a*side - x - y - 1
			c := 0
			if ring >= side && ring <= 3*side && (ring-side)%2 != 0 {
				c = 1
			}
			twice := b*sure[int](t, "Length")(Length(order, ring))/4 + x - y + 1 + c
			place := twice / 2
			if place > 4*side {
				place -= 4 * side
			} else if place < 1 {
				place += 4 * side
			}
			r, p, err := RingOf(order, pixel)
			if r != ring || p != place || twice%2 != 0 || err != api.OK {
				t.Fatalf("RingOf(%d, %d): %d, %d, %d, want %d, %d", order, pixel, r, p, err, ring, place)
			}
		})
	}
}

// TestErrorsOfRings: P6.1 and P6.3.
func TestErrorsOfRings(t *testing.T) {
	hold := func(order, ring int) {
		t.Helper()
		if n, err := Length(order, ring); n != 0 || err != api.ErrArg {
			t.Errorf("Length(%d, %d): %d, %d", order, ring, n, err)
		}
		if l, err := On(order, ring); len(l) != 0 || err != api.ErrArg {
			t.Errorf("On(%d, %d): %v, %d", order, ring, l, err)
		}
	}
	for order := range counts {
		side := 1 << order
		for _, ring := range append([]int{0, 4 * side, 4*side + 1}, extremes...) {
			hold(order, ring)
		}
	}
	for _, order := range badOrders {
		hold(order, 1)
		hold(order, order)
	}
}

// TestOnIsNew: R4, what is done to a result changes no other one.
func TestOnIsNew(t *testing.T) {
	l := sure[[]int](t, "On")(On(4, 32))
	want := slices.Clone(l)
	clear(l)
	if l, err := On(4, 32); !slices.Equal(l, want) || err != api.OK {
		t.Errorf("On(4, 32): %v, %d", l, err)
	}
	c := sure[[]int](t, "Children")(Children(2, 7))
	clear(c)
	if l, err := Children(2, 7); !slices.Equal(l, []int{28, 29, 30, 31}) || err != api.OK {
		t.Errorf("Children(2, 7): %v, %d", l, err)
	}
}
