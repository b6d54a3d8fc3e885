package prov

import (
	"slices"

	"firn/api"
)

// maxCount is the greatest number of a row in Counts and Costs.
const maxCount = 1_000_000_000_000_000

// read returns the words of a query and the Wide of its answer, if tables are valid and
// the query is valid for them.
func read(t []api.Table, query string) ([]word, int, api.Errno) {
	if !Valid(t) {
		return nil, 0, api.ErrTables
	}
	words, isQuery := wordsOf(query)
	wide, isValid := wideOf(t, words)
	if !isQuery || !isValid {
		return nil, 0, api.ErrQuery
	}
	return words, wide, api.OK
}

// sums say that the From of rows stands for itself.
func sums() origins[[]api.Product] {
	return origins[[]api.Product]{
		of:    func(from []api.Product) []api.Product { return from },
		plus:  plus,
		times: times,
		gone:  func(a []api.Product) bool { return len(a) == 0 },
		// What is collected is in order, so that nothing but a limit can keep it from being a sum.
		fits: ValidSum,
	}
}

// Ask returns the answer of a query.
func Ask(t []api.Table, query string) (api.Table, api.Errno) {
	words, wide, err := read(t, query)
	if err != api.OK {
		return api.Table{}, err
	}
	rows, err := sums().answer(t, words)
	if err != api.OK {
		return api.Table{}, err
	}
	x := api.Table{Wide: wide}
	for _, r := range rows {
		x.Rows = append(x.Rows, api.Row{Values: slices.Clone(r.values), From: slices.Clone(r.from)})
	}
	return x, api.OK
}

// Wide returns the Wide of the answer of a query. Where a limit keeps the answer from
// being there, its Wide is not there either.
func Wide(t []api.Table, query string) (int, api.Errno) {
	x, err := Ask(t, query)
	return x.Wide, err
}

func fitsCount(n int) bool {
	return n <= maxCount
}

// product returns the product of two numbers from 0 to maxCount, or else a number above
// maxCount if it is above that: the product itself may have more than 64 bits.
func product(a, b int) int {
	if b > 0 && a > maxCount/b {
		return maxCount + 1
	}
	return a * b
}

func plain(a, b int) int {
	return a + b
}

// counts say that the value of a sum stands for it.
func counts(numbers []int) origins[int] {
	return origins[int]{
		of:    func(from []api.Product) int { return value(from, numbers) },
		plus:  plain,
		times: product,
		gone:  func(n int) bool { return n == 0 },
		fits:  fitsCount,
	}
}

// prices say that the cost of a sum stands for it.
func prices(costs []int) origins[int] {
	return origins[int]{
		of:    func(from []api.Product) int { return cost(from, costs) },
		plus:  func(a, b int) int { return min(a, b) },
		times: plain,
		gone:  func(int) bool { return false },
		fits:  fitsCount,
	}
}

// numbered returns the Values of the rows of an answer, and the number that stands for
// the From of each. The numbers of the tokens go up to most.
func numbered(t []api.Table, query string, numbers []int, most int, stands func([]int) origins[int]) ([][]int, []int, api.Errno) {
	words, _, err := read(t, query)
	if err != api.OK {
		return nil, nil, err
	}
	if !validNumbers(numbers, most) {
		return nil, nil, api.ErrArg
	}
	rows, err := stands(numbers).answer(t, words)
	if err != api.OK {
		return nil, nil, err
	}
	var values [][]int
	var all []int
	for _, r := range rows {
		values = append(values, slices.Clone(r.values))
		all = append(all, r.from)
	}
	return values, all, api.OK
}

// Counts returns the Values of rows, and how often each is there.
func Counts(t []api.Table, query string, numbers []int) ([][]int, []int, api.Errno) {
	return numbered(t, query, numbers, maxNumber, counts)
}

// Costs returns the Values of the rows of the answer, and the cost of each.
func Costs(t []api.Table, query string, costs []int) ([][]int, []int, api.Errno) {
	return numbered(t, query, costs, maxCost, prices)
}

// has reports whether a table has a row with these values.
func has(x api.Table, values []int) bool {
	return slices.ContainsFunc(x.Rows, func(r api.Row) bool { return slices.Equal(r.Values, values) })
}

// Lost returns the Values of the rows of the answer that are not there without a token.
func Lost(t []api.Table, query, token string) ([][]int, api.Errno) {
	if _, _, err := read(t, query); err != api.OK {
		return nil, err
	}
	without, err := Without(t, token)
	if err != api.OK {
		return nil, err
	}
	all, err := Ask(t, query)
	if err != api.OK {
		return nil, err
	}
	// Without a token there is less of everything, so that this is within all limits too.
	left, _ := Ask(without, query)
	var lost [][]int
	for _, r := range all.Rows {
		if !has(left, r.Values) {
			lost = append(lost, r.Values)
		}
	}
	return lost, api.OK
}
