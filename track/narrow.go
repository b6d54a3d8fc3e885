package track

import (
	"iter"
	"slices"

	"firn/api"
)

// amid returns a function that makes of two points the line parallel to that
// through both that lies in the middle between all points.
func amid(p []api.Point) func(a, b api.Point) api.Line {
	return func(a, b api.Point) api.Line {
		x := through(a, b)
		all := rests(p, x)
		return api.Line{A: 2 * x.A, B: 2*x.B + slices.Min(all) + slices.Max(all), D: 2 * x.D}
	}
}

// narrowest returns a line with the least width. One that is parallel to that
// through two points is among those that have it: a strip about all points can be
// turned, without growing, until two points lie on one of its edges.
func narrowest(p []api.Point) api.Line {
	return best(p, amid(p), width)
}

// Narrowest returns the least width of any line.
func Narrowest(p []api.Point) (api.Ratio, api.Errno) {
	if !Valid(p) {
		return api.Ratio{}, api.ErrPoints
	}
	return width(p, narrowest(p)), api.OK
}

// Axis returns a line with the least width.
func Axis(p []api.Point) (api.Line, api.Errno) {
	if !Valid(p) {
		return api.Line{}, api.ErrPoints
	}
	return narrowest(p), api.OK
}

// isWitness reports whether a list is a witness.
func isWitness(p []api.Point, l []int) bool {
	for _, n := range l {
		if n < 0 || n >= len(p) {
			return false
		}
	}
	switch len(l) {
	case 2:
		return l[0] != l[1] && p[l[0]].X == p[l[1]].X
	case 3:
		return p[l[0]].X < p[l[1]].X && p[l[1]].X < p[l[2]].X
	}
	return false
}

// tells returns what a witness tells.
func tells(p []api.Point, witness []int) api.Ratio {
	if len(witness) == 2 {
		return lowest(size(p[witness[0]].Y-p[witness[1]].Y), 2)
	}
	x := through(p[witness[0]], p[witness[2]])
	return lowest(size(rest(p[witness[1]], x)), 2*x.D)
}

// twos returns an iterator over all lists of two indexes, the lesser one first.
func twos(n int) iter.Seq[[]int] {
	return func(yield func(l []int) bool) {
		for a := range n {
			for b := a + 1; b < n; b++ {
				if !yield([]int{a, b}) {
					return
				}
			}
		}
	}
}

// threes returns an iterator over all lists of three indexes.
func threes(n int) iter.Seq[[]int] {
	return func(yield func(l []int) bool) {
		for code := range n * n * n {
			if !yield([]int{code / n / n, code / n % n, code % n}) {
				return
			}
		}
	}
}

// witnesses returns an iterator over all witnesses: those of two points, then
// those of three, each index by index.
func witnesses(p []api.Point) iter.Seq[[]int] {
	return func(yield func(l []int) bool) {
		for _, lists := range []iter.Seq[[]int]{twos(len(p)), threes(len(p))} {
			for l := range lists {
				if isWitness(p, l) && !yield(l) {
					return
				}
			}
		}
	}
}

// Witness returns the first witness that tells the least width of any line.
func Witness(p []api.Point) ([]int, api.Errno) {
	if !Valid(p) {
		return nil, api.ErrPoints
	}
	least := width(p, narrowest(p))
	for l := range witnesses(p) {
		if tells(p, l) == least {
			return l, api.OK
		}
	}
	return nil, api.ErrNone
}

// Tells returns what a witness tells.
func Tells(p []api.Point, witness []int) (api.Ratio, api.Errno) {
	if !Valid(p) {
		return api.Ratio{}, api.ErrPoints
	}
	if !isWitness(p, witness) {
		return api.Ratio{}, api.ErrArg
	}
	return tells(p, witness), api.OK
}
