package cone

import "slices"

// maxList is how long a list may be that is looked at, and how many lists there may be.
const maxList = 50

// none stands where there is no hit.
const none = -1

// isList reports whether a list has hits, all of which there are.
func (o order) isList(l []int) bool {
	if len(l) < 1 || len(l) > maxList {
		return false
	}
	return !slices.ContainsFunc(l, func(a int) bool { return !o.has(a) })
}

// isChain reports whether a list is a chain.
func (o order) isChain(l []int) bool {
	if !o.isList(l) {
		return false
	}
	for i, b := range l[1:] {
		if !o.before(l[i], b) {
			return false
		}
	}
	return true
}

// haveEach reports whether lists, each of which is one that fits, have each hit just once.
func (o order) haveEach(lists [][]int, fits func(l []int) bool) bool {
	if len(lists) > maxList {
		return false
	}
	seen := map[int]bool{}
	for _, l := range lists {
		if !fits(l) {
			return false
		}
		for _, a := range l {
			if seen[a] {
				return false
			}
			seen[a] = true
		}
	}
	return len(seen) == len(o)
}

// areThreads reports whether lists are threads.
func (o order) areThreads(lists [][]int) bool {
	return o.haveEach(lists, o.isChain)
}

// fromEach returns for each hit a number that tells of the chains that begin with
// it: 1 more than what join makes of the numbers of all hits after it.
func (o order) fromEach(join func(a, b int) int) []int {
	numbers := make([]int, len(o))
	for _, a := range slices.Backward(o.byTime()) {
		joined := 0
		for _, b := range o.after(a) {
			joined = join(joined, numbers[b])
		}
		numbers[a] = 1 + joined
	}
	return numbers
}

// chain returns the longest chain, of several the one that comes first.
func (o order) chain() []int {
	lengths := o.fromEach(func(a, b int) int { return max(a, b) })
	var chain []int
	for left := o.all(); len(left) > 0; {
		next := left[0]
		for _, a := range left {
			// Not also if they are equal, so that the least index is taken.
			if lengths[a] > lengths[next] {
				next = a
			}
		}
		chain = append(chain, next)
		left = o.after(next)
	}
	return chain
}

// chains returns how many chains there are.
func (o order) chains() int {
	sum := 0
	for _, n := range o.fromEach(func(a, b int) int { return a + b }) {
		sum += n
	}
	return sum
}

// threads returns the fewest threads: each hit that follows another one in its
// thread saves a thread, so that as many as possible must follow.
func (o order) threads() [][]int {
	front := make([]int, len(o))
	for a := range front {
		front[a] = none
	}
	for a := range front {
		o.lead(a, front, map[int]bool{})
	}
	var threads [][]int
	thread := make([]int, len(o))
	for _, a := range o.byTime() {
		if front[a] == none {
			thread[a] = len(threads)
			threads = append(threads, nil)
		} else {
			thread[a] = thread[front[a]]
		}
		threads[thread[a]] = append(threads[thread[a]], a)
	}
	return threads
}

// lead finds a hit that follows a in its thread, and notes in front that a is in
// front of it. If another hit is there already, that one must find a new hit to
// lead; seen are those that need not be tried again.
func (o order) lead(a int, front []int, seen map[int]bool) bool {
	for _, b := range o.after(a) {
		if seen[b] {
			continue
		}
		seen[b] = true
		if front[b] == none || o.lead(front[b], front, seen) {
			front[b] = a
			return true
		}
	}
	return false
}
