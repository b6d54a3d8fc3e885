package ice

import (
	"slices"

	"firn/api"
)

const maxEstimates = 10

// areEstimates reports whether lists are estimates for some ice.
func areEstimates(i []api.Layer, estimates [][]int) bool {
	if len(estimates) < 1 || len(estimates) > maxEstimates {
		return false
	}
	for _, dims := range estimates {
		if len(dims) != len(i) || !within(api.MaxDim, dims...) {
			return false
		}
	}
	return true
}

// estimated returns the loss between two depths that each estimate tells.
func estimated(i []api.Layer, estimates [][]int, from, to int) ([]int, api.Errno) {
	_, err := look(i, from, to)
	if err != api.OK {
		return nil, err
	}
	if !areEstimates(i, estimates) {
		return nil, api.ErrArg
	}
	var all []int
	for _, dims := range estimates {
		s := lossesOf(i, func(layer int) int { return dims[layer] })
		all = append(all, s.loss(from, to))
	}
	return all, api.OK
}

// Between returns the least and the greatest loss between two depths over all estimates.
func Between(i []api.Layer, estimates [][]int, from, to int) (least, greatest int, err api.Errno) {
	all, err := estimated(i, estimates, from, to)
	if err != api.OK {
		return 0, 0, err
	}
	return slices.Min(all), slices.Max(all), api.OK
}

// Clearest returns the index of the first estimate with the least loss between two depths.
func Clearest(i []api.Layer, estimates [][]int, from, to int) (int, api.Errno) {
	all, err := estimated(i, estimates, from, to)
	if err != api.OK {
		return 0, err
	}
	return slices.Index(all, slices.Min(all)), api.OK
}
