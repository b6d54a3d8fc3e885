package prov

import (
	"math"
	"math/rand"
	"slices"
	"strconv"
	"strings"
	"testing"

	"firn/api"
)

// The numbers that no call may stumble over.
var extremes = []int{math.MinInt, math.MinInt + 1, math.MinInt / 2, -1 << 32, 1 << 32, math.MaxInt/2 + 1, math.MaxInt - 1, math.MaxInt}

// of returns the products of a text, whether they are a sum or not.
func of(text string) []api.Product {
	if text == "0" {
		return nil
	}
	var s []api.Product
	for part := range strings.SplitSeq(text, "+") {
		digits := part[:len(part)-len(strings.TrimLeft(part, "0123456789"))]
		p := api.Product{Tokens: part[len(digits):], Times: 1}
		if digits != "" {
			p.Times, _ = strconv.Atoi(digits)
		}
		s = append(s, p)
	}
	return s
}

// table returns a table by its rows, each "1,2:a+b".
func table(wide int, rows ...string) api.Table {
	x := api.Table{Wide: wide}
	for _, text := range rows {
		values, from, _ := strings.Cut(text, ":")
		r := api.Row{From: of(from)}
		for v := range strings.SplitSeq(values, ",") {
			n, _ := strconv.Atoi(v)
			r.Values = append(r.Values, n)
		}
		x.Rows = append(x.Rows, r)
	}
	return x
}

// example has the tables of the chapter's first example.
func example() []api.Table {
	return []api.Table{table(2, "1,2:a"), table(2, "1,5:b", "1,6:c")}
}

// many returns n products of one token or more, with so many Times: those of the lists
// of tokens in order of their lengths.
func many(n, times int) []api.Product {
	lists := []string{""}
	for a := 0; len(lists) < n; a++ {
		for token := 'a'; token <= 'h'; token++ {
			if last := lists[a]; last == "" || last[len(last)-1] <= byte(token) {
				lists = append(lists, last+string(token))
			}
		}
	}
	lists = lists[:n]
	slices.Sort(lists)
	var s []api.Product
	for _, tokens := range lists {
		s = append(s, api.Product{Tokens: tokens, Times: times})
	}
	return s
}

// rowsOf returns a table of n rows, from a value on, in so many columns, each from the
// same sum.
func rowsOf(wide, from, n int, sum string) api.Table {
	x := api.Table{Wide: wide}
	for a := range n {
		x.Rows = append(x.Rows, api.Row{Values: append([]int{from + a}, make([]int, wide-1)...), From: of(sum)})
	}
	return x
}

// isSum reports whether a list is a sum, by the chapter's words.
func isSum(s []api.Product) bool {
	var lists []string
	for _, p := range s {
		if p.Times < 1 || p.Times > 100000 || len(p.Tokens) > 12 || strings.Trim(p.Tokens, "abcdefgh") != "" {
			return false
		}
		if !slices.IsSorted([]byte(p.Tokens)) {
			return false
		}
		lists = append(lists, p.Tokens)
	}
	sorted := slices.Compact(slices.Sorted(slices.Values(lists)))
	return slices.Equal(lists, sorted) && len(s) <= 40
}

// isTable reports whether a table is valid, by the chapter's words.
func isTable(x api.Table) bool {
	if x.Wide < 1 || x.Wide > 4 || len(x.Rows) > 60 {
		return false
	}
	for a, r := range x.Rows {
		if len(r.Values) != x.Wide || slices.Min(r.Values) < -999 || slices.Max(r.Values) > 999 {
			return false
		}
		if len(r.From) == 0 || !isSum(r.From) {
			return false
		}
		for _, above := range x.Rows[:a] {
			if slices.Compare(above.Values, r.Values) >= 0 {
				return false
			}
		}
	}
	return true
}

// randomSum returns a sum of at most so many products, with at most so many tokens each
// and so many Times.
func randomSum(next func(int) int, most, factors, times int) []api.Product {
	lists := map[string]int{}
	kinds := []int{2, 3, 8}[next(3)]
	for range next(most + 1) {
		tokens := make([]byte, next(factors+1))
		for a := range tokens {
			tokens[a] = byte('a' + next(kinds))
		}
		slices.Sort(tokens)
		lists[string(tokens)] = 1 + next(times)
		if next(3) == 0 {
			lists[string(tokens)] = 1
		}
	}
	var s []api.Product
	for tokens, n := range lists {
		s = append(s, api.Product{Tokens: tokens, Times: n})
	}
	slices.SortFunc(s, func(p, q api.Product) int { return strings.Compare(p.Tokens, q.Tokens) })
	return s
}

// manySums calls look with random sums of all sizes and with some at the limits.
func manySums(seed int64, times int, look func(s []api.Product, next func(int) int)) {
	next := rand.New(rand.NewSource(seed)).Intn
	for range times {
		look(randomSum(next, []int{1, 3, 6, 40}[next(4)], []int{1, 2, 4, 12}[next(4)], []int{1, 3, 300, 100000}[next(4)]), next)
	}
	for _, s := range [][]api.Product{
		nil, {}, of("1"), of("7"), of("100000"), of("a"), of("h"), of("aaaaaaaaaaaa"), of("hhhhhhhhhhhh"), of("abcdefgh"),
		of("2a+ab+bc"), of("1+a"), of("a+aa+aaa"), of("100000abcdefghhhhh"), many(40, 1), many(40, 100000), many(39, 99999),
	} {
		look(s, next)
	}
}

// randomTable returns a table of at most so many rows.
func randomTable(next func(int) int, wide, most int) api.Table {
	values := []int{1, 2, 3, 6}[next(4)]
	seen := map[string]bool{}
	x := api.Table{Wide: wide}
	for range next(most + 1) {
		r := api.Row{Values: make([]int, wide), From: randomSum(next, 3, 2, []int{1, 3}[next(2)])}
		text := ""
		for a := range r.Values {
			r.Values[a] = next(values) - 1
			text += strconv.Itoa(r.Values[a]) + ","
		}
		if len(r.From) > 0 && !seen[text] {
			seen[text] = true
			x.Rows = append(x.Rows, r)
		}
	}
	slices.SortFunc(x.Rows, func(r, s api.Row) int { return slices.Compare(r.Values, s.Values) })
	return x
}

// randomTables returns valid tables, all of one Wide or not.
func randomTables(next func(int) int) []api.Table {
	var t []api.Table
	wide := 1 + next(2)
	isOne := next(2) == 0
	for range 1 + next(4) {
		if !isOne {
			wide = 1 + next(4)
		}
		t = append(t, randomTable(next, wide, []int{2, 5, 12}[next(3)]))
	}
	return t
}

// clone returns tables that share no memory with those given.
func clone(t []api.Table) []api.Table {
	var copied []api.Table
	for _, x := range t {
		y := api.Table{Wide: x.Wide}
		for _, r := range x.Rows {
			y.Rows = append(y.Rows, api.Row{Values: slices.Clone(r.Values), From: slices.Clone(r.From)})
		}
		copied = append(copied, y)
	}
	return copied
}

func equalRows(r, s api.Row) bool {
	return slices.Equal(r.Values, s.Values) && slices.Equal(r.From, s.From)
}

func equalTables(x, y api.Table) bool {
	return x.Wide == y.Wide && slices.EqualFunc(x.Rows, y.Rows, equalRows)
}

// sure returns a function that returns its first argument and fails a test if
// there is an error.
func sure[T any](t *testing.T, what string) func(T, api.Errno) T {
	t.Helper()
	return func(x T, err api.Errno) T {
		t.Helper()
		if err != api.OK {
			t.Fatalf("%s: error %d", what, err)
		}
		return x
	}
}

// invalidSums are none.
func invalidSums() [][]api.Product {
	l := [][]api.Product{
		{{}}, of("0a"), of("100001"), of("100001a"), of("ba"), of("aab+aba"), of("i"), of("ai"), of("A"), of("`"), of("a b"), of(" "), of("é"), of("\x00"), of("\xff"), of("a\xff"),
		of("aaaaaaaaaaaaa"), of("abcdefghhhhhh"), of("a+a"), of("b+a"), of("a+1"), of("1+1"), of("1+a+a"), of("a+b+ab"), of("ab+a"), of("a+b+c+b"), many(41, 1),
		{{Tokens: "a", Times: -1}}, {{Tokens: "a", Times: 1}, {Tokens: "b", Times: 0}}, {{Tokens: "a", Times: 100001}, {Tokens: "b", Times: 1}},
		slices.Repeat(of("a"), 2), slices.Repeat(of("1"), 41), of(strings.Repeat("a", 1000)), of(strings.Repeat("a", 256+3)),
	}
	for _, n := range extremes {
		l = append(l, []api.Product{{Times: n}}, []api.Product{{Tokens: "c", Times: n}}, []api.Product{{Tokens: "a", Times: 1}, {Tokens: "c", Times: n}})
	}
	return l
}

// invalidTables are none.
func invalidTables() [][]api.Table {
	l := [][]api.Table{
		nil, {}, slices.Repeat(example(), 3)[:5], {{}}, {{Wide: 5}}, {{Wide: -1}}, {table(1, "0:a"), {}}, {{}, table(1, "0:a")},
		{table(1, "0:0")}, {table(1, "0:a", "1:0")}, {table(1, "0:a", "0:b")}, {table(1, "1:a", "0:b")}, {table(2, "1,1:a", "1,0:a")},
		{table(2, "0,1:a", "0,1:a")}, {table(2, "1,0:a", "0,1:a")}, {table(1, "0:a", "1:a", "1:b")}, {table(1, "0:a", "2:a", "1:b")},
		{table(1, "0,1:a")}, {table(2, "0:a")}, {table(4, "0,1,2,3,4:a")}, {table(2, "0,1:a", "1:a")}, {table(5, "0,1,2,3,4:a")}, {table(3, "0,1,2,3:a")},
		{table(1, "1000:a")}, {table(1, "-1000:a")}, {table(2, "0,1000:a")}, {table(2, "0,-1000:a")}, {table(4, "0,0,0,1000:a")}, {rowsOf(1, 0, 61, "a")},
		{table(1), table(1), table(1), table(1), table(1)}, {{Wide: 1, Rows: []api.Row{{}}}}, {{Wide: 1, Rows: []api.Row{{From: of("a")}}}}, {{Wide: 1, Rows: []api.Row{{Values: []int{0}}}}},
	}
	for _, n := range extremes {
		l = append(l, []api.Table{{Wide: n}}, []api.Table{{Wide: 1, Rows: []api.Row{{Values: []int{n}, From: of("a")}}}})
		l = append(l, []api.Table{{Wide: 2, Rows: []api.Row{{Values: []int{3, n}, From: of("a")}}}})
	}
	for _, s := range invalidSums() {
		l = append(l, []api.Table{{Wide: 1, Rows: []api.Row{{Values: []int{7}, From: s}}}})
		l = append(l, []api.Table{table(1, "0:a"), {Wide: 2, Rows: []api.Row{{Values: []int{0, 0}, From: of("a")}, {Values: []int{0, 1}, From: s}}}})
	}
	return l
}

// TestValid: P9.2.
func TestValid(t *testing.T) {
	for _, x := range invalidTables() {
		if Valid(x) {
			t.Errorf("Valid(%v)", x)
		}
	}
	for _, x := range [][]api.Table{
		example(), {table(1)}, {table(4)}, {table(1), table(2), table(3), table(4)}, {rowsOf(4, 0, 60, "a")}, {rowsOf(1, -999, 60, "1"), rowsOf(1, 940, 60, "100000")},
		{table(1, "-999:1", "999:hhhhhhhhhhhh")}, {table(4, "-999,999,-999,999:a")}, {table(2, "-1,5:a", "0,-5:a", "0,-4:a", "1,-999:a")},
		{{Wide: 1, Rows: []api.Row{{Values: []int{0}, From: many(40, 100000)}}}}, slices.Repeat([]api.Table{rowsOf(4, 0, 60, "a+b")}, 4),
	} {
		if !Valid(x) {
			t.Errorf("not Valid(%v)", x)
		}
	}
}

// TestValidOfMany: P9.2, tables with one thing changed.
func TestValidOfMany(t *testing.T) {
	next := rand.New(rand.NewSource(1)).Intn
	values := append([]int{-1000, -999, -1, 0, 1, 2, 999, 1000}, extremes...)
	valid := 0
	for range 6000 {
		x := randomTables(next)
		one := &x[next(len(x))]
		if n := len(one.Rows); n > 0 {
			r := &one.Rows[next(n)]
			switch next(8) {
			case 0:
				r.Values[next(len(r.Values))] = values[next(len(values))]
			case 1:
				r.From[next(len(r.From))].Times = []int{0, 1, 100000, 100001, -3}[next(5)]
			case 2:
				r.From[next(len(r.From))].Tokens = []string{"", "a", "ba", "aaaaaaaaaaaa", "aaaaaaaaaaaaa", "b", "g", "i"}[next(8)]
			case 3:
				r.Values = r.Values[next(2):]
			case 4:
				r.From = r.From[next(2):]
			case 5:
				a := next(n)
				one.Rows[a], *r = *r, one.Rows[a]
			case 6:
				one.Rows = slices.Insert(one.Rows, next(n), *r)
			}
		} else {
			one.Wide = next(7) - 1
		}
		want := !slices.ContainsFunc(x, func(y api.Table) bool { return !isTable(y) })
		if Valid(x) != want {
			t.Fatalf("Valid(%v): %v", x, !want)
		}
		if want {
			valid++
		}
	}
	if valid < 600 || valid > 5400 {
		t.Errorf("%d are valid", valid)
	}
}

// TestWithoutByHand: P9.7.
func TestWithoutByHand(t *testing.T) {
	x := []api.Table{table(2, "1,2:a", "1,3:1+2a+b", "2,0:ab+h"), table(1), table(1, "0:3", "1:abh", "2:bb")}
	for _, c := range []struct {
		token string
		want  []api.Table
	}{
		{"a", []api.Table{table(2, "1,3:1+b", "2,0:h"), table(1), table(1, "0:3", "2:bb")}},
		{"b", []api.Table{table(2, "1,2:a", "1,3:1+2a", "2,0:h"), table(1), table(1, "0:3")}},
		{"h", []api.Table{table(2, "1,2:a", "1,3:1+2a+b", "2,0:ab"), table(1), table(1, "0:3", "2:bb")}},
		{"c", x},
	} {
		got, err := Without(x, c.token)
		if err != api.OK || !slices.EqualFunc(got, c.want, equalTables) {
			t.Errorf("Without(%s): %v, %d, want %v", c.token, got, err, c.want)
		}
	}
	all, err := Without([]api.Table{table(3, "0,0,0:d")}, "d")
	if err != api.OK || !slices.EqualFunc(all, []api.Table{table(3)}, equalTables) {
		t.Errorf("Without all: %v, %d", all, err)
	}
}

// TestWithout: P9.7 and P9.3, by Spared.
func TestWithout(t *testing.T) {
	next := rand.New(rand.NewSource(2)).Intn
	for range 1000 {
		x := randomTables(next)
		token := string(rune('a' + next(8)))
		got := sure[[]api.Table](t, "Without")(Without(x, token))
		if !Valid(got) || len(got) != len(x) {
			t.Fatalf("Without(%v, %s): %v", x, token, got)
		}
		for a, y := range x {
			want := api.Table{Wide: y.Wide}
			for _, r := range y.Rows {
				if from := sure[[]api.Product](t, "Spared")(Spared(r.From, token)); len(from) > 0 {
					want.Rows = append(want.Rows, api.Row{Values: r.Values, From: from})
				}
			}
			if !equalTables(got[a], want) {
				t.Fatalf("Without(%v, %s): %v", x, token, got)
			}
		}
	}
}

// invalidTokens are none.
func invalidTokens() []string {
	return []string{"", "i", "`", "A", "H", "aa", "ab", "a ", " a", "1", "0", "é", "\x00", "\xff", "a\x00", "abcdefgh", strings.Repeat("a", 1000)}
}

// invalidLists are no lists of a number from 0 up to most for each token.
func invalidLists(most int) [][]int {
	l := [][]int{nil, {}, make([]int, 7), make([]int, 9), make([]int, 1), make([]int, 256+8)}
	for _, n := range append([]int{-1, most + 1}, extremes...) {
		for a := range 8 {
			list := make([]int, 8)
			list[a] = n
			l = append(l, list)
		}
	}
	return l
}

func noList[T any](l []T) bool {
	return len(l) == 0
}

func noTable(x api.Table) bool {
	return x.Wide == 0 && len(x.Rows) == 0
}

func zero[T comparable](x T) bool {
	var nothing T
	return x == nothing
}

// told tells whether the result of a call is zero, and its error.
func told[T any](isZero func(T) bool) func(T, api.Errno) (bool, api.Errno) {
	return func(x T, err api.Errno) (bool, api.Errno) { return isZero(x), err }
}

// numbersTold does the same for a call with two lists.
func numbersTold(values [][]int, numbers []int, err api.Errno) (bool, api.Errno) {
	return len(values) == 0 && len(numbers) == 0, err
}

// callsOfSums returns calls of all functions of sums, by their names. Each tells whether
// its results are zero.
func callsOfSums(s, other []api.Product, numbers, costs []int, token string) map[string]func() (bool, api.Errno) {
	return map[string]func() (bool, api.Errno){
		"Plus":   func() (bool, api.Errno) { return told(noList[api.Product])(Plus(s, other)) },
		"Times":  func() (bool, api.Errno) { return told(noList[api.Product])(Times(s, other)) },
		"Value":  func() (bool, api.Errno) { return told(zero[int])(Value(s, numbers)) },
		"Cost":   func() (bool, api.Errno) { return told(zero[int])(Cost(s, costs)) },
		"Why":    func() (bool, api.Errno) { return told(noList[string])(Why(s)) },
		"Tokens": func() (bool, api.Errno) { return told(zero[string])(Tokens(s)) },
		"Spared": func() (bool, api.Errno) { return told(noList[api.Product])(Spared(s, token)) },
		"Format": func() (bool, api.Errno) { return told(zero[string])(Format(s)) },
	}
}

// callsOfTables returns calls of all functions of tables, by their names.
func callsOfTables(x []api.Table, query string, numbers, costs []int, token string) map[string]func() (bool, api.Errno) {
	return map[string]func() (bool, api.Errno){
		"Wide":    func() (bool, api.Errno) { return told(zero[int])(Wide(x, query)) },
		"Ask":     func() (bool, api.Errno) { return told(noTable)(Ask(x, query)) },
		"Counts":  func() (bool, api.Errno) { return numbersTold(Counts(x, query, numbers)) },
		"Costs":   func() (bool, api.Errno) { return numbersTold(Costs(x, query, costs)) },
		"Without": func() (bool, api.Errno) { return told(noList[api.Table])(Without(x, token)) },
		"Lost":    func() (bool, api.Errno) { return told(noList[[]int])(Lost(x, query, token)) },
	}
}

// good and bad are lists of numbers for the tokens.
func good() []int {
	return []int{1, 2, 3, 4, 5, 6, 7, 8}
}

func bad() []int {
	return []int{1, 2, 3, 4, 5, 6, 7, -8}
}

// TestErrorsOfTables: P9.1, the error of tables comes before all others.
func TestErrorsOfTables(t *testing.T) {
	for _, x := range invalidTables() {
		for _, calls := range []map[string]func() (bool, api.Errno){
			callsOfTables(x, "A", good(), good(), "a"), callsOfTables(x, "A B by", bad(), bad(), "ab"), callsOfTables(x, "", nil, nil, ""),
		} {
			for name, f := range calls {
				if nothing, err := f(); !nothing || err != api.ErrTables {
					t.Errorf("%s of %v: error %d, zero: %v", name, x, err, nothing)
				}
			}
		}
	}
}

// TestErrorsOfQueries: P9.1, the error of a query, then that of an argument, then that
// of a limit.
func TestErrorsOfQueries(t *testing.T) {
	large := []api.Table{rowsOf(1, 0, 31, "abcdefg"), rowsOf(1, 31, 30, "abcdefg")}
	for _, c := range []struct {
		query          string
		numbers        []int
		token          string
		ask, arg, lost api.Errno
		without        api.Errno
	}{
		{"A", good(), "a", api.OK, api.OK, api.OK, api.OK},
		{"A", bad(), "aa", api.OK, api.ErrArg, api.ErrArg, api.ErrArg},
		{"A B or", good(), "a", api.ErrLimit, api.ErrLimit, api.ErrLimit, api.OK},
		{"A B or", good(), "h", api.ErrLimit, api.ErrLimit, api.ErrLimit, api.OK},
		{"A B or", bad(), "", api.ErrLimit, api.ErrArg, api.ErrArg, api.ErrArg},
		{"A A by", good(), "a", api.ErrLimit, api.OK, api.ErrLimit, api.OK},
		{"A A by", bad(), "i", api.ErrLimit, api.ErrArg, api.ErrArg, api.ErrArg},
		{"A B or or", good(), "a", api.ErrQuery, api.ErrQuery, api.ErrQuery, api.OK},
		{"A B or or", bad(), "", api.ErrQuery, api.ErrQuery, api.ErrQuery, api.ErrArg},
		{"", nil, "z", api.ErrQuery, api.ErrQuery, api.ErrQuery, api.ErrArg},
	} {
		for name, f := range callsOfTables(large, c.query, c.numbers, c.numbers, c.token) {
			want := map[string]api.Errno{"Wide": c.ask, "Ask": c.ask, "Counts": c.arg, "Costs": c.arg, "Lost": c.lost, "Without": c.without}[name]
			if nothing, err := f(); err != want || err != api.OK && !nothing {
				t.Errorf("%s of %q with %v, %q: error %d, zero: %v, want %d", name, c.query, c.numbers, c.token, err, nothing, want)
			}
		}
	}
}

// TestErrorsOfSums: P9.1, the error of a sum comes before all others.
func TestErrorsOfSums(t *testing.T) {
	for _, s := range invalidSums() {
		for _, calls := range []map[string]func() (bool, api.Errno){
			callsOfSums(s, of("a"), good(), good(), "a"), callsOfSums(s, s, bad(), nil, ""), callsOfSums(s, many(40, 100000), nil, bad(), "i"),
		} {
			for name, f := range calls {
				if nothing, err := f(); !nothing || err != api.ErrSum {
					t.Errorf("%s of %v: error %d, zero: %v", name, s, err, nothing)
				}
			}
		}
		for _, other := range [][]api.Product{nil, of("a"), many(40, 100000)} {
			for _, name := range []string{"Plus", "Times"} {
				if nothing, err := callsOfSums(other, s, nil, nil, "")[name](); !nothing || err != api.ErrSum {
					t.Errorf("%s of %v and %v: error %d, zero: %v", name, other, s, err, nothing)
				}
			}
		}
	}
}

// TestErrorsOfArguments: P9.1, P9.3, P9.6 and P9.7, each bad argument, and good ones at
// their limits.
func TestErrorsOfArguments(t *testing.T) {
	hold := func(what string, calls map[string]func() (bool, api.Errno), want api.Errno, names ...string) {
		t.Helper()
		for _, name := range names {
			if nothing, err := calls[name](); err != want || want != api.OK && !nothing {
				t.Errorf("%s with %s: error %d, zero: %v, want %d", name, what, err, nothing, want)
			}
		}
	}
	for _, s := range [][]api.Product{nil, of("a"), of("1"), many(40, 100000)} {
		for _, list := range invalidLists(10) {
			hold("bad numbers", callsOfSums(s, nil, list, good(), "a"), api.ErrArg, "Value")
			hold("bad numbers", callsOfTables(example(), "A", list, good(), "a"), api.ErrArg, "Counts")
		}
		for _, list := range invalidLists(1000) {
			hold("bad costs", callsOfSums(s, nil, good(), list, "a"), api.ErrArg, "Cost")
			hold("bad costs", callsOfTables(example(), "A", good(), list, "a"), api.ErrArg, "Costs")
		}
		for _, token := range invalidTokens() {
			hold("token "+token, callsOfSums(s, nil, good(), good(), token), api.ErrArg, "Spared")
			hold("token "+token, callsOfTables(example(), "A", good(), good(), token), api.ErrArg, "Lost", "Without")
		}
	}
	for _, n := range []int{0, 10} {
		list := slices.Repeat([]int{n}, 8)
		hold("numbers", callsOfSums(of("a"), nil, list, list, "h"), api.OK, "Value", "Cost", "Spared")
		hold("numbers", callsOfTables(example(), "A", list, list, "h"), api.OK, "Counts", "Costs", "Lost", "Without")
	}
	high := slices.Repeat([]int{1000}, 8)
	hold("costs", callsOfSums(of("a"), nil, good(), high, "a"), api.OK, "Cost")
	hold("costs", callsOfTables(example(), "A", good(), high, "a"), api.OK, "Costs")
	hold("0", callsOfSums(nil, nil, good(), good(), "a"), api.ErrNone, "Cost")
	hold("0", callsOfSums(nil, nil, good(), good(), "a"), api.OK, "Plus", "Times", "Value", "Why", "Tokens", "Spared", "Format")
}

// roomy returns a list with room behind it, which must stay as it is.
func roomy[T any](l []T, behind T) []T {
	return append(slices.Clone(l), behind, behind)[:len(l)]
}

// roomyTables returns tables all of whose lists have room behind them.
func roomyTables(t []api.Table) []api.Table {
	t = clone(t)
	for a := range t {
		for b, r := range t[a].Rows {
			t[a].Rows[b] = api.Row{Values: roomy(r.Values, 77), From: roomy(r.From, api.Product{Tokens: "x", Times: -1})}
		}
		t[a].Rows = roomy(t[a].Rows, api.Row{Values: []int{9, 9, 9, 9, 9}})
	}
	return roomy(t, api.Table{Wide: 9})
}

// whole returns tables with all that stands in the room behind their lists.
func whole(t []api.Table) []api.Table {
	var all []api.Table
	for _, x := range t[:len(t)+2] {
		y := api.Table{Wide: x.Wide}
		for _, r := range x.Rows[:cap(x.Rows)] {
			y.Rows = append(y.Rows, api.Row{Values: slices.Clone(r.Values[:cap(r.Values)]), From: slices.Clone(r.From[:cap(r.From)])})
		}
		all = append(all, y)
	}
	return all
}

// spoil makes all numbers and products of a table others, with the room behind them,
// each one a different one if it is shared.
func spoil(x api.Table) {
	for _, r := range x.Rows[:cap(x.Rows)] {
		spoilNumbers(r.Values)
		spoilSum(r.From)
	}
}

func spoilNumbers(l []int) {
	l = l[:cap(l)]
	for a := range l {
		l[a] = 3*l[a] + 1000
	}
}

func spoilSum(s []api.Product) {
	s = s[:cap(s)]
	for a, p := range s {
		s[a] = api.Product{Tokens: p.Tokens + "z", Times: 3*p.Times + 1000}
	}
}

// asked returns one table of all that the functions of tables return.
func asked(x []api.Table, query string) []api.Table {
	y, _ := Ask(x, query)
	values, numbers, _ := Counts(x, query, good())
	prices, costs, _ := Costs(x, query, good())
	lost, _ := Lost(x, query, "a")
	without, _ := Without(x, "b")
	lists := api.Table{Rows: []api.Row{{Values: numbers}, {Values: costs}}}
	for _, l := range slices.Concat(values, prices, lost) {
		lists.Rows = append(lists.Rows, api.Row{Values: l})
	}
	return append(without, y, lists)
}

// TestMemoryOfTables: R4, and results of their own.
func TestMemoryOfTables(t *testing.T) {
	next := rand.New(rand.NewSource(3)).Intn
	for range 1500 {
		x := roomyTables(randomTables(next))
		query := randomQuery(next, x)
		before := whole(x)
		first := asked(x, query)
		kept := clone(first)
		for a, y := range first {
			spoil(y)
			// What comes behind it must not have been spoiled with it.
			if !slices.EqualFunc(first[a+1:], kept[a+1:], equalTables) {
				t.Fatalf("%q of %v: results share memory", query, x)
			}
		}
		if !slices.EqualFunc(whole(x), before, equalTables) {
			t.Fatalf("%q changed %v", query, before)
		}
		if !slices.EqualFunc(asked(x, query), kept, equalTables) {
			t.Fatalf("%q of %v: a result is not its own", query, x)
		}
	}
}

// TestRowsOfTheirOwn: R4, no two lists of one result share memory.
func TestRowsOfTheirOwn(t *testing.T) {
	shared := api.Row{Values: []int{1, 2}, From: of("a+b")}
	x := []api.Table{{Wide: 2, Rows: []api.Row{shared}}, {Wide: 2, Rows: []api.Row{{Values: []int{1, 3}, From: shared.From}, {Values: []int{1, 4}, From: shared.From}}}}
	for _, query := range []string{"A", "B", "A B or", "A B by", "B B or drop0", "A A by pick0=1", "B same00"} {
		y := sure[api.Table](t, query)(Ask(x, query))
		kept := clone([]api.Table{y})[0]
		for a, r := range y.Rows {
			spoilNumbers(r.Values)
			spoilSum(r.From)
			if !slices.EqualFunc(y.Rows[a+1:], kept.Rows[a+1:], equalRows) {
				t.Errorf("%q: rows share memory", query)
			}
		}
		if again := sure[api.Table](t, query)(Ask(x, query)); !equalTables(again, kept) {
			t.Errorf("%q: a result is not its own", query)
		}
	}
}

// TestMemoryOfSums: R4.
func TestMemoryOfSums(t *testing.T) {
	manySums(4, 300, func(s []api.Product, next func(int) int) {
		behind := api.Product{Tokens: "x", Times: -1}
		s, other := roomy(s, behind), roomy(randomSum(next, 3, 2, 3), behind)
		numbers := roomy(good(), 77)
		before, beside := slices.Clone(s[:len(s)+2]), slices.Clone(other[:len(other)+2])
		for _, f := range []func() []api.Product{
			func() []api.Product { x, _ := Plus(s, other); return x },
			func() []api.Product { x, _ := Plus(s, nil); return x },
			func() []api.Product { x, _ := Plus(nil, s); return x },
			func() []api.Product { x, _ := Times(s, of("1")); return x },
			func() []api.Product { x, _ := Times(other, s); return x },
			func() []api.Product { x, _ := Spared(s, "a"); return x },
			func() []api.Product { x, _ := Spared(s, "h"); return x },
			func() []api.Product { x, _ := Parse("2a+ab"); return x },
		} {
			first := f()
			kept := slices.Clone(first)
			spoilSum(first)
			if !slices.Equal(f(), kept) {
				t.Fatalf("a result of %v is not its own", s)
			}
		}
		for _, f := range callsOfSums(s, other, numbers, numbers, "b") {
			f()
		}
		why, _ := Why(s)
		kept := slices.Clone(why)
		clear(why[:cap(why)])
		if again, _ := Why(s); !slices.Equal(again, kept) {
			t.Fatalf("Why of %v is not its own", s)
		}
		if !slices.Equal(s[:len(s)+2], before) || !slices.Equal(other[:len(other)+2], beside) || !slices.Equal(numbers[:10], append(good(), 77, 77)) {
			t.Fatalf("%v, %v or %v was changed", before, beside, numbers[:10])
		}
	})
}
