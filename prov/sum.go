package prov

import (
	"cmp"
	"maps"
	"slices"
	"strings"

	"firn/api"
)

// The numbers of a token, and its costs, go from 0 up to these.
const (
	maxNumber = 10
	maxCost   = 1000
)

// collected returns products in the order of a sum, the Times of equal Tokens added.
func collected(products []api.Product) []api.Product {
	times := map[string]int{}
	for _, p := range products {
		times[p.Tokens] += p.Times
	}
	var s []api.Product
	for _, tokens := range slices.Sorted(maps.Keys(times)) {
		s = append(s, api.Product{Tokens: tokens, Times: times[tokens]})
	}
	return s
}

// plus returns the sum of two sums, without limits.
func plus(s, t []api.Product) []api.Product {
	return collected(slices.Concat(s, t))
}

// multiplied returns the product of two products.
func multiplied(p, q api.Product) api.Product {
	tokens := []byte(p.Tokens + q.Tokens)
	slices.Sort(tokens)
	return api.Product{Tokens: string(tokens), Times: p.Times * q.Times}
}

// times returns the product of two sums, without limits. Nothing in it has more than
// 64 bits: of two sums there are at most 1600 pairs, of 10^10 each.
func times(s, t []api.Product) []api.Product {
	var all []api.Product
	for _, p := range s {
		for _, q := range t {
			all = append(all, multiplied(p, q))
		}
	}
	return collected(all)
}

// mixed returns what two sums mix to.
func mixed(s, t []api.Product, mix func(s, t []api.Product) []api.Product) ([]api.Product, api.Errno) {
	if !ValidSum(s) || !ValidSum(t) {
		return nil, api.ErrSum
	}
	// What is collected is in order, so that nothing but a limit can keep it from being a sum.
	m := mix(s, t)
	if !ValidSum(m) {
		return nil, api.ErrLimit
	}
	return m, api.OK
}

// Plus returns the sum of two sums.
func Plus(s, t []api.Product) ([]api.Product, api.Errno) {
	return mixed(s, t, plus)
}

// Times returns the product of two sums.
func Times(s, t []api.Product) ([]api.Product, api.Errno) {
	return mixed(s, t, times)
}

// validNumbers reports whether a list has a number for each token, from 0 up to most.
func validNumbers(list []int, most int) bool {
	outside := func(n int) bool { return n < 0 || n > most }
	return len(list) == tokenCount && !slices.ContainsFunc(list, outside)
}

// value returns the value of a sum. It has at most 63 bits: there are at most 40
// products, of 10^5 * 10^12 each.
func value(s []api.Product, numbers []int) int {
	sum := 0
	for _, p := range s {
		product := p.Times
		for a := range len(p.Tokens) {
			product *= numbers[p.Tokens[a]-firstToken]
		}
		sum += product
	}
	return sum
}

// Value returns the value of a sum.
func Value(s []api.Product, numbers []int) (int, api.Errno) {
	if !ValidSum(s) {
		return 0, api.ErrSum
	}
	if !validNumbers(numbers, maxNumber) {
		return 0, api.ErrArg
	}
	return value(s, numbers), api.OK
}

// cost returns the cost of a sum that is not 0.
func cost(s []api.Product, costs []int) int {
	var all []int
	for _, p := range s {
		sum := 0
		for a := range len(p.Tokens) {
			sum += costs[p.Tokens[a]-firstToken]
		}
		all = append(all, sum)
	}
	return slices.Min(all)
}

// Cost returns the cost of a sum.
func Cost(s []api.Product, costs []int) (int, api.Errno) {
	if !ValidSum(s) {
		return 0, api.ErrSum
	}
	if !validNumbers(costs, maxCost) {
		return 0, api.ErrArg
	}
	if len(s) == 0 {
		return 0, api.ErrNone
	}
	return cost(s, costs), api.OK
}

// setOf returns the tokens of a text, each once, ascending.
func setOf(tokens string) string {
	all := []byte(tokens)
	slices.Sort(all)
	return string(slices.Compact(all))
}

// isPart reports whether all tokens of a set are in another one.
func isPart(part, set string) bool {
	for a := range len(part) {
		if strings.IndexByte(set, part[a]) < 0 {
			return false
		}
	}
	return true
}

// Why returns the least sets of tokens by which a sum is there.
func Why(s []api.Product) ([]string, api.Errno) {
	if !ValidSum(s) {
		return nil, api.ErrSum
	}
	var sets []string
	for _, p := range s {
		sets = append(sets, setOf(p.Tokens))
	}
	slices.SortFunc(sets, func(a, b string) int {
		return cmp.Or(cmp.Compare(len(a), len(b)), cmp.Compare(a, b))
	})
	// A part of a set is no longer than it, so that it has been looked at before.
	var least []string
	for _, set := range sets {
		if !slices.ContainsFunc(least, func(part string) bool { return isPart(part, set) }) {
			least = append(least, set)
		}
	}
	return least, api.OK
}

// Tokens returns all tokens that are in a sum.
func Tokens(s []api.Product) (string, api.Errno) {
	if !ValidSum(s) {
		return "", api.ErrSum
	}
	all := ""
	for _, p := range s {
		all += p.Tokens
	}
	return setOf(all), api.OK
}

// Spared returns a sum without all products that have a token.
func Spared(s []api.Product, token string) ([]api.Product, api.Errno) {
	if !ValidSum(s) {
		return nil, api.ErrSum
	}
	if !validToken(token) {
		return nil, api.ErrArg
	}
	return spared(s, token), api.OK
}
