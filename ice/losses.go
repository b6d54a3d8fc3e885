package ice

import "firn/api"

// losses are what ice takes: for each depth the loss between the top and it.
type losses []int

// lossesOf returns the losses of ice in which each layer has the Dim that dim
// tells of its index.
func lossesOf(i []api.Layer, dim func(layer int) int) losses {
	s := losses{0}
	loss := 0
	for n, l := range i {
		for range l.Thick {
			loss += dim(n)
			s = append(s, loss)
		}
	}
	return s
}

// depth returns the depth of the ice.
func (s losses) depth() int {
	return len(s) - 1
}

// whole returns the loss between the top and the bottom.
func (s losses) whole() int {
	return s[s.depth()]
}

// loss returns the loss between two depths.
func (s losses) loss(a, b int) int {
	return s[max(a, b)] - s[min(a, b)]
}

// down returns the greatest depth to which the loss from a depth is at most a strength.
func (s losses) down(from, strength int) int {
	to := from
	for to < s.depth() && s.loss(from, to+1) <= strength {
		to++
	}
	return to
}

// up returns the least depth to which the loss from a depth is at most a strength.
func (s losses) up(from, strength int) int {
	to := from
	for to > 0 && s.loss(from, to-1) <= strength {
		to--
	}
	return to
}
