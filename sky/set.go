package sky

import (
	"slices"

	"firn/api"
)

// maxGiven is how many cells Set takes.
const maxGiven = 4000

func validCells(cells []api.Cell) bool {
	return !slices.ContainsFunc(cells, func(c api.Cell) bool { return !validCell(c) })
}

// Valid reports whether a list is a set. No two sets have the same pixels, so that
// only the one list that is made of the pixels of the cells can be one.
func Valid(l []api.Cell) bool {
	if len(l) > api.MaxCells || !validCells(l) {
		return false
	}
	r := regionOf(l)
	return slices.Equal(l, r.cells())
}

// Set returns the set with the pixels that any cells have.
func Set(cells []api.Cell) ([]api.Cell, api.Errno) {
	if len(cells) > maxGiven || !validCells(cells) {
		return nil, api.ErrArg
	}
	r := regionOf(cells)
	return r.set()
}

// Has reports whether a set has all pixels of a cell.
func Has(l []api.Cell, c api.Cell) (bool, api.Errno) {
	if !Valid(l) {
		return false, api.ErrCells
	}
	if !validCell(c) {
		return false, api.ErrArg
	}
	r := regionOf(l)
	return r.has(c), api.OK
}

// Size returns how many pixels of the order MaxOrder a set has.
func Size(l []api.Cell) (int, api.Errno) {
	if !Valid(l) {
		return 0, api.ErrCells
	}
	total := 0
	for _, c := range l {
		total += size(c)
	}
	return total, api.OK
}

// mixed returns the set with the pixels that two sets mix to, word by word.
func mixed(l, m []api.Cell, mix func(a, b uint64) uint64) ([]api.Cell, api.Errno) {
	if !Valid(l) || !Valid(m) {
		return nil, api.ErrCells
	}
	r, s := regionOf(l), regionOf(m)
	for n := range r {
		r[n] = mix(r[n], s[n])
	}
	return r.set()
}

// Join returns the set with the pixels that one of two sets has, or both.
func Join(l, m []api.Cell) ([]api.Cell, api.Errno) {
	return mixed(l, m, func(a, b uint64) uint64 { return a | b })
}

// Both returns the set with the pixels that both of two sets have.
func Both(l, m []api.Cell) ([]api.Cell, api.Errno) {
	return mixed(l, m, func(a, b uint64) uint64 { return a & b })
}

// Without returns the set with the pixels that the first of two sets has, but not
// the second one.
func Without(l, m []api.Cell) ([]api.Cell, api.Errno) {
	return mixed(l, m, func(a, b uint64) uint64 { return a &^ b })
}

// Rest returns the set with the pixels that a set has not.
func Rest(l []api.Cell) ([]api.Cell, api.Errno) {
	return mixed(l, nil, func(a, _ uint64) uint64 { return ^a })
}

// Coarse returns the set with the pixels of all cells of an order that have a pixel
// that a set has.
func Coarse(l []api.Cell, order int) ([]api.Cell, api.Errno) {
	if !Valid(l) {
		return nil, api.ErrCells
	}
	if !validOrder(order) {
		return nil, api.ErrArg
	}
	var r region
	for _, c := range l {
		r.add(up(c, min(c.Order, order)))
	}
	return r.set()
}

// Rings returns the set with all pixels of the order MaxOrder on the rings from one
// to another one.
func Rings(from, to int) ([]api.Cell, api.Errno) {
	if from < 1 || from > to || to > rings(api.MaxOrder) {
		return nil, api.ErrArg
	}
	var r region
	for ring := from; ring <= to; ring++ {
		for _, pixel := range on(api.MaxOrder, ring) {
			r.add(api.Cell{Order: api.MaxOrder, Pixel: pixel})
		}
	}
	return r.set()
}
