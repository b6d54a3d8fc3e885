package prov

import (
	"slices"

	"firn/api"
)

// row is a row of a table, with whatever stands in place of its From.
type row[F any] struct {
	values []int
	from   F
}

// origins say what stands in place of From, and what is done with it.
type origins[F any] struct {
	of    func(from []api.Product) F // what stands for the From of a given row
	plus  func(a, b F) F             // for two equal rows
	times func(a, b F) F             // for two joined rows
	gone  func(a F) bool             // whether its row is left out
	fits  func(a F) bool             // whether it is within its limits
}

// given returns the rows of a given table.
func (o origins[F]) given(x api.Table) []row[F] {
	var rows []row[F]
	for _, r := range x.Rows {
		rows = append(rows, row[F]{r.Values, o.of(r.From)})
	}
	return rows
}

// joined returns the rows of two tables joined by their first values. No two of them
// are equal, as both rows can be told from each, so that one too many need not be
// followed by others.
func (o origins[F]) joined(u, v []row[F]) []row[F] {
	var rows []row[F]
	for _, x := range u {
		for _, y := range v {
			if x.values[0] == y.values[0] && len(rows) <= api.MaxRows {
				rows = append(rows, row[F]{slices.Concat(x.values, y.values[1:]), o.times(x.from, y.from)})
			}
		}
	}
	return rows
}

// dropped returns rows with a column left out.
func dropped[F any](rows []row[F], n int) []row[F] {
	var left []row[F]
	for _, r := range rows {
		left = append(left, row[F]{slices.Concat(r.values[:n], r.values[n+1:]), r.from})
	}
	return left
}

// stay returns the rows whose values are as asked for.
func stay[F any](rows []row[F], asked func(values []int) bool) []row[F] {
	var left []row[F]
	for _, r := range rows {
		if asked(r.values) {
			left = append(left, r)
		}
	}
	return left
}

// made returns new rows: those that a word makes of the tables that it takes, in any order.
func (o origins[F]) made(t []api.Table, w word, taken [][]row[F]) []row[F] {
	switch w.kind {
	case put:
		return o.given(t[w.n])
	case or:
		return slices.Concat(taken...)
	case by:
		return o.joined(taken[0], taken[1])
	case drop:
		return dropped(taken[0], w.n)
	case pick:
		return stay(taken[0], func(values []int) bool { return values[w.n] == w.m })
	}
	return stay(taken[0], func(values []int) bool { return values[w.n] == values[w.m] })
}

// settled returns rows as they stand in a table: in order, equal ones added. It sorts
// what it is given.
func (o origins[F]) settled(rows []row[F]) []row[F] {
	slices.SortFunc(rows, func(x, y row[F]) int { return slices.Compare(x.values, y.values) })
	var all []row[F]
	for _, r := range rows {
		last := len(all) - 1
		if last >= 0 && slices.Equal(all[last].values, r.values) {
			all[last].from = o.plus(all[last].from, r.from)
		} else {
			all = append(all, r)
		}
	}
	return slices.DeleteFunc(all, func(r row[F]) bool { return o.gone(r.from) })
}

// fit reports whether the rows of a table are within all limits.
func (o origins[F]) fit(rows []row[F]) bool {
	tooLarge := func(r row[F]) bool { return !o.fits(r.from) }
	return len(rows) <= api.MaxRows && !slices.ContainsFunc(rows, tooLarge)
}

// answer returns the rows of the answer of words that are valid for tables. They may
// share memory with the tables.
func (o origins[F]) answer(t []api.Table, words []word) ([]row[F], api.Errno) {
	var p pile[[]row[F]]
	for _, w := range words {
		n := w.kind.takes()
		rows := o.settled(o.made(t, w, p.upper(n)))
		if !o.fit(rows) {
			return nil, api.ErrLimit
		}
		p = append(p.below(n), rows)
	}
	return p[0], api.OK
}
