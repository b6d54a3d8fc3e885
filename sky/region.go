package sky

import "firn/api"

// wordBits is how many bits a word of a region has.
const wordBits = 64

// region has a bit for each pixel of the order MaxOrder: whether it has the pixel.
type region [faces << (2 * api.MaxOrder) / wordBits]uint64

// size returns how many pixels of the order MaxOrder a cell has.
func size(c api.Cell) int {
	return 1 << (2 * (api.MaxOrder - c.Order))
}

// first returns the first pixel of the order MaxOrder that a cell has.
func first(c api.Cell) int {
	return c.Pixel * size(c)
}

// regionOf returns the region that has the pixels of cells.
func regionOf(cells []api.Cell) region {
	var r region
	for _, c := range cells {
		r.add(c)
	}
	return r
}

// add gives a region the pixels of a cell.
func (r *region) add(c api.Cell) {
	for n := range size(c) {
		pixel := first(c) + n
		r[pixel/wordBits] |= 1 << (pixel % wordBits)
	}
}

// has reports whether a region has all pixels of a cell.
func (r *region) has(c api.Cell) bool {
	for n := range size(c) {
		pixel := first(c) + n
		if r[pixel/wordBits]>>(pixel%wordBits)&1 == 0 {
			return false
		}
	}
	return true
}

// largest returns the largest cell that begins with a pixel and of which a region
// has all pixels, if it has that pixel.
func (r *region) largest(pixel int) (api.Cell, bool) {
	for order := range api.MaxOrder + 1 {
		c := up(api.Cell{Order: api.MaxOrder, Pixel: pixel}, order)
		if first(c) == pixel && r.has(c) {
			return c, true
		}
	}
	return api.Cell{}, false
}

// cells returns the cells of a region, each as large as can be: no four of them
// are the children of one cell.
func (r *region) cells() []api.Cell {
	var l []api.Cell
	for pixel := 0; pixel < pixels(api.MaxOrder); {
		c, found := r.largest(pixel)
		if !found {
			pixel++
			continue
		}
		l = append(l, c)
		pixel += size(c)
	}
	return l
}

// set returns the set with the pixels of a region.
func (r *region) set() ([]api.Cell, api.Errno) {
	l := r.cells()
	if len(l) > api.MaxCells {
		return nil, api.ErrLimit
	}
	return l, api.OK
}
