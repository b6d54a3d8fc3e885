package cone

import (
	"cmp"
	"slices"

	"firn/api"
)

// order is valid hits, by what comes before what. A hit is named by its index.
type order []api.Hit

// has reports whether a number is the index of a hit.
func (o order) has(a int) bool {
	return 0 <= a && a < len(o)
}

// before reports whether a hit is before another one.
func (o order) before(a, b int) bool {
	later := o[b].Time - o[a].Time
	apart := o[b].Place - o[a].Place
	return later > 0 && later >= max(apart, -apart)
}

// know reports whether two hits know of each other.
func (o order) know(a, b int) bool {
	return o.before(a, b) || o.before(b, a)
}

// all returns all hits.
func (o order) all() []int {
	all := make([]int, len(o))
	for i := range all {
		all[i] = i
	}
	return all
}

// byTime returns all hits so that what is before a hit stands in front of it.
func (o order) byTime() []int {
	all := o.all()
	slices.SortStableFunc(all, func(a, b int) int { return cmp.Compare(o[a].Time, o[b].Time) })
	return all
}

// kept returns those of some hits that are to be kept, in the same order.
func kept(some []int, keep func(a int) bool) []int {
	var l []int
	for _, a := range some {
		if keep(a) {
			l = append(l, a)
		}
	}
	return l
}

// past returns all hits that are before a hit.
func (o order) past(a int) []int {
	return kept(o.all(), func(b int) bool { return o.before(b, a) })
}

// after returns all hits that a hit is before.
func (o order) after(a int) []int {
	return kept(o.all(), func(b int) bool { return o.before(a, b) })
}

// firstOf returns those of some hits before which there is none of them.
func (o order) firstOf(some []int) []int {
	return kept(some, func(a int) bool {
		return !slices.ContainsFunc(some, func(b int) bool { return o.before(b, a) })
	})
}

// first returns all hits before which there is none.
func (o order) first() []int {
	return o.firstOf(o.all())
}

// turned returns the hits with times below and above 0 exchanged.
func (o order) turned() []api.Hit {
	turned := make([]api.Hit, 0, len(o))
	for _, hit := range o {
		turned = append(turned, api.Hit{Place: hit.Place, Time: -hit.Time})
	}
	return turned
}
