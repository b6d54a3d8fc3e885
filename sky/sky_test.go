package sky

import (
	"math"
	"slices"
	"testing"

	"firn/api"
)

// The numbers that no call may stumble over.
var extremes = []int{math.MinInt, math.MinInt + 1, math.MinInt / 4, -1 << 32, -1, 1 << 32, math.MaxInt/4 + 1, math.MaxInt / 2, math.MaxInt - 1, math.MaxInt}

// badOrders are none.
var badOrders = append([]int{-2, api.MaxOrder + 1, api.MaxOrder + 2, 29, 31, 32, 63, 64}, extremes...)

// counts are how many pixels the orders have.
var counts = []int{12, 48, 192, 768, 3072}

// badNumbers are those of no pixel of an order.
func badNumbers(order int) []int {
	return append([]int{counts[order], counts[order] + 1, 4 * counts[order]}, extremes...)
}

// sure returns a function that returns its first argument and fails a test if
// there is an error.
func sure[T any](t *testing.T, what string) func(T, api.Errno) T {
	t.Helper()
	return func(x T, err api.Errno) T {
		t.Helper()
		if err != api.OK {
			t.Fatalf("%s: error %d", what, err)
		}
		return x
	}
}

// spots calls look with all pixels of an order, by their nested numbers. Each
// pixel's four children lie in its quarters.
func spots(order int, look func(pixel, face, x, y int)) {
	if order == 0 {
		for face := range 12 {
			look(face, face, 0, 0)
		}
		return
	}
	spots(order-1, func(pixel, face, x, y int) {
		look(4*pixel, face, 2*x, 2*y)
		look(4*pixel+1, face, 2*x+1, 2*y)
		look(4*pixel+2, face, 2*x, 2*y+1)
		look(4*pixel+3, face, 2*x+1, 2*y+1)
	})
}

// TestPixels: P6.2.
func TestPixels(t *testing.T) {
	for order, want := range counts {
		if n, err := Pixels(order); n != want || err != api.OK {
			t.Errorf("Pixels(%d): %d, %d, want %d", order, n, err, want)
		}
	}
	for _, order := range badOrders {
		if n, err := Pixels(order); n != 0 || err != api.ErrArg {
			t.Errorf("Pixels(%d): %d, %d", order, n, err)
		}
	}
}

// TestNestedByHand: P6.2, the bits by turns those of x and of y.
func TestNestedByHand(t *testing.T) {
	for _, c := range []struct{ order, face, x, y, pixel int }{
		{0, 0, 0, 0, 0}, {0, 11, 0, 0, 11}, {1, 0, 1, 0, 1}, {1, 0, 0, 1, 2}, {1, 0, 1, 1, 3}, {1, 11, 1, 1, 47},
		{2, 0, 2, 0, 4}, {2, 0, 0, 2, 8}, {2, 5, 3, 1, 80 + 7}, {3, 1, 4, 3, 64 + 26}, {4, 0, 15, 0, 85}, {4, 0, 0, 15, 170},
		{4, 7, 10, 5, 7*256 + 102}, {4, 11, 15, 15, 3071}, {4, 3, 8, 0, 3*256 + 64}, {4, 3, 0, 8, 3*256 + 128},
	} {
		if p, err := Nested(c.order, c.face, c.x, c.y); p != c.pixel || err != api.OK {
			t.Errorf("Nested(%d, %d, %d, %d): %d, %d, want %d", c.order, c.face, c.x, c.y, p, err, c.pixel)
		}
	}
}

// TestNestedAndPlace: P6.2 and P6.7.
func TestNestedAndPlace(t *testing.T) {
	for order := range counts {
		next := 0
		spots(order, func(pixel, face, x, y int) {
			if p, err := Nested(order, face, x, y); p != pixel || p != next || err != api.OK {
				t.Fatalf("Nested(%d, %d, %d, %d): %d, %d, want %d", order, face, x, y, p, err, pixel)
			}
			f, a, b, err := Place(order, pixel)
			if f != face || a != x || b != y || err != api.OK {
				t.Fatalf("Place(%d, %d): %d, %d, %d, %d, want %d, %d, %d", order, pixel, f, a, b, err, face, x, y)
			}
			next++
		})
		if next != sure[int](t, "Pixels")(Pixels(order)) {
			t.Errorf("order %d: %d pixels", order, next)
		}
	}
}

// TestErrorsOfNested: P6.1.
func TestErrorsOfNested(t *testing.T) {
	hold := func(order, face, x, y int) {
		t.Helper()
		if p, err := Nested(order, face, x, y); p != 0 || err != api.ErrArg {
			t.Errorf("Nested(%d, %d, %d, %d): %d, %d", order, face, x, y, p, err)
		}
	}
	for order := range counts {
		side := 1 << order
		for _, face := range append([]int{12, 13}, extremes...) {
			hold(order, face, 0, 0)
		}
		for _, n := range append([]int{side, side + 1}, extremes...) {
			hold(order, 1, n, 0)
			hold(order, 1, 0, n)
			hold(order, 1, n, n)
			hold(order, 11, n, side-1)
			hold(order, 0, side-1, n)
		}
	}
	for _, order := range badOrders {
		hold(order, 0, 0, 0)
		hold(order, order, order, order)
	}
}

// TestErrorsOfPixels: P6.1 to P6.4, what takes a pixel.
func TestErrorsOfPixels(t *testing.T) {
	hold := func(order, pixel int) {
		t.Helper()
		if f, x, y, err := Place(order, pixel); f != 0 || x != 0 || y != 0 || err != api.ErrArg {
			t.Errorf("Place(%d, %d): %d, %d, %d, %d", order, pixel, f, x, y, err)
		}
		if n, err := Ring(order, pixel); n != 0 || err != api.ErrArg {
			t.Errorf("Ring(%d, %d): %d, %d", order, pixel, n, err)
		}
		if n, err := FromRing(order, pixel); n != 0 || err != api.ErrArg {
			t.Errorf("FromRing(%d, %d): %d, %d", order, pixel, n, err)
		}
		if r, p, err := RingOf(order, pixel); r != 0 || p != 0 || err != api.ErrArg {
			t.Errorf("RingOf(%d, %d): %d, %d, %d", order, pixel, r, p, err)
		}
		if p, err := Up(order, pixel, 0); p != 0 || err != api.ErrArg {
			t.Errorf("Up(%d, %d, 0): %d, %d", order, pixel, p, err)
		}
		if p, err := Up(order, pixel, order); p != 0 || err != api.ErrArg {
			t.Errorf("Up(%d, %d, %d): %d, %d", order, pixel, order, p, err)
		}
		// Of the order MaxOrder, that there is no such pixel comes before that it has
		// no children.
		if l, err := Children(order, pixel); len(l) != 0 || err != api.ErrArg {
			t.Errorf("Children(%d, %d): %v, %d", order, pixel, l, err)
		}
	}
	for order := range counts {
		for _, pixel := range badNumbers(order) {
			hold(order, pixel)
		}
	}
	for _, order := range badOrders {
		for _, pixel := range append([]int{0, 11}, extremes...) {
			hold(order, pixel)
		}
	}
}

// TestUp: P6.4.
func TestUp(t *testing.T) {
	for order := range counts {
		for pixel := range counts[order] {
			above := pixel
			for to := order; to >= 0; to-- {
				if p, err := Up(order, pixel, to); p != above || err != api.OK {
					t.Fatalf("Up(%d, %d, %d): %d, %d, want %d", order, pixel, to, p, err, above)
				}
				above /= 4
			}
			for _, to := range append([]int{order + 1, order + 2, api.MaxOrder + 1}, extremes...) {
				if p, err := Up(order, pixel, to); p != 0 || err != api.ErrArg {
					t.Fatalf("Up(%d, %d, %d): %d, %d", order, pixel, to, p, err)
				}
			}
		}
	}
	// What is above lies around what is below.
	for pixel := range counts[4] {
		face, x, y, _ := Place(4, pixel)
		for to := range 4 {
			f, a, b, err := Place(to, sure[int](t, "Up")(Up(4, pixel, to)))
			if f != face || a != x>>(4-to) || b != y>>(4-to) || err != api.OK {
				t.Fatalf("Up(4, %d, %d) is at %d, %d, %d", pixel, to, f, a, b)
			}
		}
	}
}

// TestChildren: P6.4 and P6.8.
func TestChildren(t *testing.T) {
	for order := range api.MaxOrder {
		var all []int
		for pixel := range counts[order] {
			children, err := Children(order, pixel)
			if !slices.Equal(children, []int{4 * pixel, 4*pixel + 1, 4*pixel + 2, 4*pixel + 3}) || err != api.OK {
				t.Fatalf("Children(%d, %d): %v, %d", order, pixel, children, err)
			}
			for _, child := range children {
				if p, err := Up(order+1, child, order); p != pixel || err != api.OK {
					t.Fatalf("Up(%d, %d, %d): %d, %d", order+1, child, order, p, err)
				}
			}
			all = append(all, children...)
		}
		for pixel, child := range all {
			if child != pixel {
				t.Fatalf("Children of the order %d: %v", order, all)
			}
		}
		if len(all) != counts[order+1] {
			t.Fatalf("Children of the order %d: %d of %d", order, len(all), counts[order+1])
		}
	}
	for _, pixel := range []int{0, 1, 1000, 3071} {
		if l, err := Children(api.MaxOrder, pixel); len(l) != 0 || err != api.ErrNone {
			t.Errorf("Children(%d, %d): %v, %d", api.MaxOrder, pixel, l, err)
		}
	}
}
