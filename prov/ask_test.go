package prov

import (
	"math/big"
	"math/rand"
	"slices"
	"testing"

	"firn/api"
)

// TestAskByHand: P9.5, with the chapter's examples.
func TestAskByHand(t *testing.T) {
	pairs := []api.Table{table(2, "1,1:a", "1,2:b", "2,1:c", "3,3:d"), table(2, "1,1:e", "1,3:f", "2,2:g"), table(1, "1:a+b", "2:2h"), table(3)}
	for _, c := range []struct {
		t     []api.Table
		query string
		want  api.Table
	}{
		{example(), "A B by", table(3, "1,2,5:ab", "1,2,6:ac")},
		{example(), "A B by drop2", table(2, "1,2:ab+ac")},
		{example(), "A B or", table(2, "1,2:a", "1,5:b", "1,6:c")},
		{example(), "B A by", table(3, "1,5,2:ab", "1,6,2:ac")},
		{example(), "B B or", table(2, "1,5:2b", "1,6:2c")},
		{example(), "B drop1", table(1, "1:b+c")},
		{example(), "B drop0", table(1, "5:b", "6:c")},
		{pairs, "A", pairs[0]},
		{pairs, "D", pairs[3]},
		{pairs, "A B or", table(2, "1,1:a+e", "1,2:b", "1,3:f", "2,1:c", "2,2:g", "3,3:d")},
		{pairs, "B A or", table(2, "1,1:a+e", "1,2:b", "1,3:f", "2,1:c", "2,2:g", "3,3:d")},
		{pairs, "A B by", table(3, "1,1,1:ae", "1,1,3:af", "1,2,1:be", "1,2,3:bf", "2,1,2:cg")},
		{pairs, "A C by", table(2, "1,1:aa+ab", "1,2:ab+bb", "2,1:2ch")},
		{pairs, "C A by", table(2, "1,1:aa+ab", "1,2:ab+bb", "2,1:2ch")},
		{pairs, "C C by", table(1, "1:aa+2ab+bb", "2:4hh")},
		{pairs, "A drop0", table(1, "1:a+c", "2:b", "3:d")},
		{pairs, "A drop1", table(1, "1:a+b", "2:c", "3:d")},
		{pairs, "A pick0=1", table(2, "1,1:a", "1,2:b")},
		{pairs, "A pick1=1", table(2, "1,1:a", "2,1:c")},
		{pairs, "A pick1=-1", table(2)},
		{pairs, "A same01", table(2, "1,1:a", "3,3:d")},
		{pairs, "A same10", table(2, "1,1:a", "3,3:d")},
		{pairs, "A same11", pairs[0]},
		{pairs, "A B by same12 drop0 drop1", table(1, "1:ae")},
		{pairs, "A B by same02 drop2", table(2, "1,1:ae", "1,2:be", "2,1:cg")},
		{pairs, "A drop0 C or", table(1, "1:2a+b+c", "2:b+2h", "3:d")},
		{pairs, "A B by D or", table(3, "1,1,1:ae", "1,1,3:af", "1,2,1:be", "1,2,3:bf", "2,1,2:cg")},
		{pairs, "A B B by by", table(4, "1,1,1,1:aee", "1,1,1,3:aef", "1,1,3,1:aef", "1,1,3,3:aff", "1,2,1,1:bee", "1,2,1,3:bef", "1,2,3,1:bef", "1,2,3,3:bff", "2,1,2,2:cgg")},
		// What lies below is not written over by what is put on above.
		{pairs, "C A drop0 C or or", table(1, "1:3a+2b+c", "2:b+4h", "3:d")},
		{pairs, "A A B by drop2 or", table(2, "1,1:a+ae+af", "1,2:b+be+bf", "2,1:c+cg", "3,3:d")},
		{pairs, "A B A pick0=1 by drop0 or", table(2, "1,1:a+ae", "1,2:b+be", "2,1:c", "3,1:af", "3,2:bf", "3,3:d")},
	} {
		if x, err := Ask(c.t, c.query); !equalTables(x, c.want) || err != api.OK {
			t.Errorf("Ask(%q): %v, %d, want %v", c.query, x, err, c.want)
		}
	}
}

// TestNumbersByHand: P9.6.
func TestNumbersByHand(t *testing.T) {
	x := []api.Table{table(2, "1,2:a", "1,3:2b+c", "2,2:c", "3,3:5"), table(2, "1,1:aab", "3,4:b", "3,5:d")}
	numbers, costs := []int{3, 10, 0, 1, 0, 0, 0, 0}, []int{5, 1000, 70, 0, 0, 0, 0, 0}
	for _, c := range []struct {
		query  string
		counts [][]int
		number []int
		costs  [][]int
		cost   []int
	}{
		{"A", [][]int{{1, 2}, {1, 3}, {3, 3}}, []int{3, 20, 5}, [][]int{{1, 2}, {1, 3}, {2, 2}, {3, 3}}, []int{5, 70, 70, 0}},
		{"A drop1", [][]int{{1}, {3}}, []int{23, 5}, [][]int{{1}, {2}, {3}}, []int{5, 70, 0}},
		{"A drop0", [][]int{{2}, {3}}, []int{3, 25}, [][]int{{2}, {3}}, []int{5, 0}},
		{"A A or", [][]int{{1, 2}, {1, 3}, {3, 3}}, []int{6, 40, 10}, [][]int{{1, 2}, {1, 3}, {2, 2}, {3, 3}}, []int{5, 70, 70, 0}},
		{"A B by", [][]int{{1, 2, 1}, {1, 3, 1}, {3, 3, 4}, {3, 3, 5}}, []int{270, 1800, 50, 5}, [][]int{{1, 2, 1}, {1, 3, 1}, {3, 3, 4}, {3, 3, 5}}, []int{1015, 1080, 1000, 0}},
		{"A pick0=2", nil, nil, [][]int{{2, 2}}, []int{70}},
		{"A same01", [][]int{{3, 3}}, []int{5}, [][]int{{2, 2}, {3, 3}}, []int{70, 0}},
		{"A pick1=9", nil, nil, nil, nil},
		{"A pick0=2 A or", [][]int{{1, 2}, {1, 3}, {3, 3}}, []int{3, 20, 5}, [][]int{{1, 2}, {1, 3}, {2, 2}, {3, 3}}, []int{5, 70, 70, 0}},
	} {
		values, number, err := Counts(x, c.query, numbers)
		if !slices.EqualFunc(values, c.counts, slices.Equal) || !slices.Equal(number, c.number) || err != api.OK {
			t.Errorf("Counts(%q): %v, %v, %d, want %v, %v", c.query, values, number, err, c.counts, c.number)
		}
		values, number, err = Costs(x, c.query, costs)
		if !slices.EqualFunc(values, c.costs, slices.Equal) || !slices.Equal(number, c.cost) || err != api.OK {
			t.Errorf("Costs(%q): %v, %v, %d, want %v, %v", c.query, values, number, err, c.costs, c.cost)
		}
	}
}

// TestLostByHand: P9.7.
func TestLostByHand(t *testing.T) {
	x := []api.Table{table(2, "1,2:a", "1,3:a+b", "2,2:1+a", "3,3:aac+ab"), table(1, "1:b", "2:a")}
	for _, c := range []struct {
		query, token string
		want         [][]int
	}{
		{"A", "a", [][]int{{1, 2}, {3, 3}}}, {"A", "b", nil}, {"A", "c", nil}, {"A", "h", nil}, {"A drop1", "a", [][]int{{3}}}, {"A drop0", "a", nil}, {"A drop0", "b", nil},
		{"A B by", "a", [][]int{{1, 2}, {2, 2}}}, {"A B by", "b", [][]int{{1, 2}, {1, 3}}}, {"B", "a", [][]int{{2}}}, {"B", "b", [][]int{{1}}}, {"A pick0=3", "a", [][]int{{3, 3}}}, {"A pick0=2", "a", nil},
		{"A B by drop1", "b", [][]int{{1}}}, {"A drop1 B or", "a", [][]int{{3}}}, {"A drop1 pick0=3 B or", "a", [][]int{{2}, {3}}},
	} {
		if l, err := Lost(x, c.query, c.token); !slices.EqualFunc(l, c.want, slices.Equal) || err != api.OK {
			t.Errorf("Lost(%q, %s): %v, %d, want %v", c.query, c.token, l, err, c.want)
		}
	}
}

// askedOf returns the answer among all tables of a query, if all are within all limits.
func askedOf(all []relation) (api.Table, bool) {
	var x api.Table
	for _, r := range all {
		if len(r.rows) > 60 {
			return api.Table{}, false
		}
		x = api.Table{Wide: r.wide}
		for _, values := range r.values() {
			from, ok := r.rows[room(values)].sum()
			if !ok {
				return api.Table{}, false
			}
			x.Rows = append(x.Rows, api.Row{Values: values, From: from})
		}
	}
	return x, true
}

// countsOf does the same with the values of all rows.
func countsOf(all []relation, numbers []int) (values [][]int, counts []int, ok bool) {
	most := big.NewInt(1e15)
	for _, r := range all {
		values, counts = nil, nil
		for _, v := range r.values() {
			n := r.rows[room(v)].value(numbers)
			if n.Cmp(most) > 0 {
				return nil, nil, false
			}
			if n.Sign() > 0 {
				values, counts = append(values, v), append(counts, int(n.Int64()))
			}
		}
		if len(values) > 60 {
			return nil, nil, false
		}
	}
	return values, counts, true
}

// costsOf does the same with the costs of all rows.
func costsOf(all []relation, costs []int) (values [][]int, numbers []int, ok bool) {
	for _, r := range all {
		values, numbers = r.values(), nil
		for _, v := range values {
			numbers = append(numbers, r.rows[room(v)].cost(costs))
		}
		if len(values) > 60 {
			return nil, nil, false
		}
	}
	return values, numbers, true
}

// enlarge makes some tables so large that what is made of them is near the limits, or
// above them.
func enlarge(next func(int) int, x []api.Table) {
	for a := range x {
		switch next(4) {
		case 0:
			if x[a].Wide == 2 {
				x[a] = crossed(5 + next(56))
			}
		case 1:
			x[a] = rowsOf(x[a].Wide, next(50)-2, 20+next(41), []string{"a", "1", "a+bc", "40000h"}[next(4)])
		case 2:
			for b := range x[a].Rows {
				x[a].Rows[b].From = append(randomSum(next, 3, 7, 50000), api.Product{Tokens: "hhhhhhhh", Times: 1})
			}
		}
	}
}

// manyQueries calls look with random tables and queries that are valid for them, and
// with all tables that such a query puts on the pile, without limits.
func manyQueries(seed int64, times int, look func(x []api.Table, query string, all []relation, next func(int) int)) {
	next := rand.New(rand.NewSource(seed)).Intn
	for times > 0 {
		x := randomTables(next)
		if next(2) == 0 {
			enlarge(next, x)
		}
		query := randomQuery(next, x)
		all, ok := played(x, query)
		if ok && len(all) > 0 {
			look(x, query, all, next)
			times--
		}
	}
}

// TestAsk: P9.1, P9.5 and P9.11, by the chapter's words with exact polynomials.
func TestAsk(t *testing.T) {
	limits, rows := 0, 0
	manyQueries(13, 4000, func(x []api.Table, query string, all []relation, _ func(int) int) {
		want, ok := askedOf(all)
		y, err := Ask(x, query)
		if !equalTables(y, want) || (err == api.OK) != ok || !ok && err != api.ErrLimit {
			t.Fatalf("Ask(%v, %q): %v, %d, want %v", x, query, y, err, want)
		}
		if wide, e := Wide(x, query); wide != y.Wide || e != err {
			t.Fatalf("Wide(%v, %q): %d, %d", x, query, wide, e)
		}
		rows += min(len(y.Rows), 1)
		if !ok {
			limits++
		} else if !isTable(y) {
			t.Fatalf("Ask(%v, %q): %v is none", x, query, y)
		}
	})
	if limits < 100 || rows < 1000 {
		t.Errorf("%d limits, %d with rows", limits, rows)
	}
}

// TestCounts: P9.6, by the values of exact polynomials, and P9.9.
func TestCounts(t *testing.T) {
	limits := 0
	manyQueries(14, 6000, func(x []api.Table, query string, all []relation, next func(int) int) {
		numbers := randomList(next, []int{1, 2, 10}[next(3)])
		want, number, ok := countsOf(all, numbers)
		values, got, err := Counts(x, query, numbers)
		if !slices.EqualFunc(values, want, slices.Equal) || !slices.Equal(got, number) || (err == api.OK) != ok || !ok && err != api.ErrLimit {
			t.Fatalf("Counts(%v, %q, %v): %v, %v, %d, want %v, %v", x, query, numbers, values, got, err, want, number)
		}
		if !ok {
			limits++
			return
		}
		y, err := Ask(x, query)
		if err != api.OK {
			return
		}
		at := 0
		for _, r := range y.Rows {
			n := sure[int](t, "Value")(Value(r.From, numbers))
			if n > 0 && (at >= len(got) || got[at] != n || !slices.Equal(values[at], r.Values)) {
				t.Fatalf("Counts(%v, %q, %v): %v, %v, the answer: %v", x, query, numbers, values, got, y)
			}
			at += min(n, 1)
		}
		if at != len(got) {
			t.Fatalf("Counts(%v, %q, %v): %v, the answer: %v", x, query, numbers, values, y)
		}
	})
	if limits < 30 {
		t.Errorf("%d limits", limits)
	}
}

// TestCosts: P9.6, by the costs of exact polynomials, and P9.9.
func TestCosts(t *testing.T) {
	limits := 0
	manyQueries(15, 6000, func(x []api.Table, query string, all []relation, next func(int) int) {
		costs := randomList(next, []int{1, 9, 1000}[next(3)])
		want, number, ok := costsOf(all, costs)
		values, got, err := Costs(x, query, costs)
		if !slices.EqualFunc(values, want, slices.Equal) || !slices.Equal(got, number) || (err == api.OK) != ok || !ok && err != api.ErrLimit {
			t.Fatalf("Costs(%v, %q, %v): %v, %v, %d, want %v, %v", x, query, costs, values, got, err, want, number)
		}
		if !ok {
			limits++
			return
		}
		if y, err := Ask(x, query); err == api.OK {
			if len(y.Rows) != len(got) {
				t.Fatalf("Costs(%v, %q, %v): %v, the answer: %v", x, query, costs, values, y)
			}
			for a, r := range y.Rows {
				if got[a] != sure[int](t, "Cost")(Cost(r.From, costs)) || !slices.Equal(values[a], r.Values) {
					t.Fatalf("Costs(%v, %q, %v): %v, %v, the answer: %v", x, query, costs, values, got, y)
				}
			}
		}
	})
	if limits < 30 {
		t.Errorf("%d limits", limits)
	}
}

// TestLost: P9.7 and P9.10.
func TestLost(t *testing.T) {
	lost := 0
	manyQueries(16, 3000, func(x []api.Table, query string, _ []relation, next func(int) int) {
		token := string(rune('a' + next(4)))
		l, err := Lost(x, query, token)
		y, e := Ask(x, query)
		if err != e {
			t.Fatalf("Lost(%v, %q, %s): %d", x, query, token, err)
		}
		if err != api.OK {
			return
		}
		without := sure[api.Table](t, "Ask")(Ask(sure[[]api.Table](t, "Without")(Without(x, token)), query))
		left := api.Table{Wide: y.Wide}
		var want [][]int
		for _, r := range y.Rows {
			if from := sure[[]api.Product](t, "Spared")(Spared(r.From, token)); len(from) > 0 {
				left.Rows = append(left.Rows, api.Row{Values: r.Values, From: from})
			}
			isLost := true
			for _, set := range sure[[]string](t, "Why")(Why(r.From)) {
				isLost = isLost && within(token, setOfTokens(set))
			}
			if isLost {
				want = append(want, r.Values)
				lost++
			}
		}
		if !equalTables(without, left) || !slices.EqualFunc(l, want, slices.Equal) {
			t.Fatalf("Lost(%v, %q, %s): %v, the answer: %v, without: %v", x, query, token, l, y, without)
		}
	})
	if lost < 300 {
		t.Errorf("%d rows are lost", lost)
	}
}

// setOfTokens returns a set of tokens as bits.
func setOfTokens(text string) int {
	set := 0
	for _, token := range text {
		set |= 1 << (token - 'a')
	}
	return set
}

// TestLimitsOfAsk: P9.1, just within each limit and just above it, also where a word
// that comes later would leave out what is too large.
func TestLimitsOfAsk(t *testing.T) {
	within := func(from string) []api.Table {
		return []api.Table{{Wide: 2, Rows: []api.Row{{Values: []int{1, 1}, From: of(from)}, {Values: []int{1, 2}, From: of("a")}}}, table(1, "1:1"), table(1, "1:2"), table(1, "1:b")}
	}
	forty := api.Table{Wide: 2, Rows: []api.Row{{Values: []int{0, 0}, From: many(40, 1)}, {Values: []int{0, 1}, From: many(40, 99999)}, {Values: []int{1, 0}, From: of("hh")}}}
	for a, c := range []struct {
		t     []api.Table
		query string
		want  api.Errno
	}{
		{[]api.Table{rowsOf(1, 0, 30, "a"), rowsOf(1, 30, 30, "a")}, "A B or", api.OK}, {[]api.Table{rowsOf(1, 0, 30, "a"), rowsOf(1, 30, 31, "a")}, "A B or", api.ErrLimit},
		{[]api.Table{rowsOf(1, 0, 60, "a"), rowsOf(1, 0, 60, "b")}, "A B or", api.OK}, {[]api.Table{rowsOf(1, 0, 60, "a"), rowsOf(1, 1, 60, "b")}, "A B or", api.ErrLimit},
		{[]api.Table{rowsOf(1, 0, 60, "a"), rowsOf(1, 1, 60, "b")}, "A B or pick0=5", api.ErrLimit}, {[]api.Table{rowsOf(1, 0, 60, "a"), rowsOf(1, 1, 60, "b")}, "A B pick0=60 or", api.ErrLimit},
		{[]api.Table{rowsOf(1, 0, 60, "a"), rowsOf(1, 1, 60, "b")}, "A pick0=0 B or", api.ErrLimit}, {[]api.Table{rowsOf(1, 0, 60, "a"), rowsOf(1, 1, 60, "b")}, "A pick0=1 B or", api.OK},
		{[]api.Table{crossed(6), crossed(10)}, "A B by", api.OK}, {[]api.Table{crossed(61), crossed(1)}, "A", api.ErrTables}, {[]api.Table{crossed(7), crossed(9)}, "A B by", api.ErrLimit},
		{[]api.Table{crossed(60), crossed(1)}, "A B by", api.OK}, {[]api.Table{crossed(60), crossed(2)}, "A B by drop2", api.ErrLimit}, {[]api.Table{crossed(60), crossed(60)}, "A B by pick1=0", api.ErrLimit},
		{[]api.Table{crossed(8), crossed(8)}, "A B by same12", api.ErrLimit}, {[]api.Table{crossed(60), crossed(60)}, "B drop1 A by", api.OK}, {[]api.Table{crossed(60)}, "A drop1", api.OK},
		{within("100000"), "A drop1", api.OK}, {within("100000a"), "A drop1", api.ErrLimit}, {within("99999a"), "A drop1", api.OK}, {within("50000a"), "A C by", api.OK}, {within("50001a"), "A C by", api.ErrLimit},
		{within("50001a"), "A C by pick1=2", api.ErrLimit}, {within("50001a"), "A pick1=2 C by", api.OK}, {within("100000a"), "A B by", api.OK}, {within("100000a"), "A A or", api.ErrLimit},
		{within("aaaaaaaaaaaa"), "A B by", api.OK}, {within("aaaaaaaaaaaa"), "A D by", api.ErrLimit}, {within("aaaaaaaaaaa"), "A D by", api.OK}, {within("1+aaaaaaaaaaaa"), "D A by", api.ErrLimit},
		{[]api.Table{forty}, "A drop1", api.OK}, {[]api.Table{forty}, "A drop0", api.ErrLimit}, {[]api.Table{forty}, "A pick0=1 drop0", api.OK}, {[]api.Table{forty}, "A A or", api.ErrLimit},
		{[]api.Table{forty}, "A pick0=1 A pick1=1 or drop1", api.OK}, {[]api.Table{forty}, "A pick0=1 drop0 A pick1=0 pick0=0 drop0 or", api.ErrLimit}, {[]api.Table{forty}, "A A by", api.ErrLimit},
		{[]api.Table{crossed(60), table(1, "0:60a")}, "A drop1 B or", api.OK}, {[]api.Table{rowsOf(2, 0, 60, "1666a")}, "A drop0", api.OK}, {[]api.Table{rowsOf(2, 0, 60, "1667a")}, "A drop0", api.ErrLimit},
		{[]api.Table{table(1, "0:7a"), {Wide: 1, Rows: []api.Row{{Values: []int{0}, From: many(40, 100000)}}}}, "A", api.OK},
	} {
		x, err := Ask(c.t, c.query)
		if err != c.want || err != api.OK && !noTable(x) {
			t.Errorf("%d: Ask(%q): %d rows, %d, want %d", a, c.query, len(x.Rows), err, c.want)
		}
		if l, err := Lost(c.t, c.query, "h"); err != c.want || err != api.OK && len(l) > 0 {
			t.Errorf("%d: Lost(%q): %d rows, %d, want %d", a, c.query, len(l), err, c.want)
		}
	}
}

// crossed returns a table of n rows with the first value 0, from a.
func crossed(n int) api.Table {
	x := api.Table{Wide: 2}
	for a := range n {
		x.Rows = append(x.Rows, api.Row{Values: []int{0, a}, From: of("a")})
	}
	return x
}

// TestLimitsOfNumbers: P9.6, just within each limit and just above it.
func TestLimitsOfNumbers(t *testing.T) {
	tens := slices.Repeat([]int{10}, 8)
	for _, c := range []struct {
		t      []api.Table
		query  string
		a, b   int // the numbers of these tokens, all others are 10
		counts api.Errno
		costs  api.Errno
	}{
		{[]api.Table{table(1, "0:aaaaaaaaaaaa")}, "A", 10, 0, api.OK, api.OK},
		{[]api.Table{table(1, "0:1000aaaaaaaaaaaa")}, "A", 10, 0, api.OK, api.OK},
		{[]api.Table{table(1, "0:1001aaaaaaaaaaaa")}, "A", 10, 0, api.ErrLimit, api.OK},
		{[]api.Table{table(1, "0:1000aaaaaaaaaaaa+b")}, "A", 10, 1, api.ErrLimit, api.OK},
		{[]api.Table{table(1, "0:1000aaaaaaaaaaaa+b")}, "A", 10, 0, api.OK, api.OK},
		{[]api.Table{table(1, "0:1000aaaaaaaaaaaa", "1:b"), table(1, "1:b")}, "B", 10, 1, api.OK, api.OK},
		{[]api.Table{table(1, "0:1001aaaaaaaaaaaa", "1:b"), table(1, "1:b")}, "B", 10, 1, api.OK, api.OK},
		{[]api.Table{table(1, "0:1001aaaaaaaaaaaa", "1:b")}, "A pick0=1", 10, 1, api.ErrLimit, api.OK},
		{[]api.Table{table(2, "0,0:500aaaaaaaaaaaa", "0,1:500aaaaaaaaaaaa")}, "A drop1", 10, 1, api.OK, api.OK},
		{[]api.Table{table(2, "0,0:500aaaaaaaaaaaa", "0,1:500aaaaaaaaaaaa+b")}, "A drop1", 10, 1, api.ErrLimit, api.OK},
		{[]api.Table{table(1, "0:1000aaaaaaaaaaaa")}, "A A or", 10, 0, api.ErrLimit, api.OK},
		{[]api.Table{table(1, "0:500aaaaaaaaaaaa")}, "A A or", 10, 0, api.OK, api.OK},
		{[]api.Table{table(1, "0:aaaaaaaa"), table(1, "0:aaaaaaa"), table(1, "0:aaaaaaa+b")}, "A B by", 10, 1, api.OK, api.OK},
		{[]api.Table{table(1, "0:aaaaaaaa"), table(1, "0:aaaaaaa"), table(1, "0:aaaaaaa+b")}, "A C by", 10, 1, api.ErrLimit, api.OK},
		{[]api.Table{table(1, "0:aaaaaaaa"), table(1, "0:aaaaaaa"), table(1, "0:aaaaaaa+b")}, "C A by", 10, 1, api.ErrLimit, api.OK},
		{[]api.Table{table(1, "0:aaaaaaaa"), table(1, "0:aaaaaaa"), table(1, "0:aaaaaaa+b")}, "C A by", 10, 0, api.OK, api.OK},
		// Products that go round in 64 bits: 10^15 twice, and 8^12 * 2^12 twice, which goes round to 0.
		{[]api.Table{table(1, "0:1000aaaaaaaaaaaa")}, "A A by", 10, 0, api.ErrLimit, api.OK},
		{[]api.Table{table(1, "0:4096aaaaaaaaaaaa")}, "A A by", 8, 0, api.ErrLimit, api.OK},
		{[]api.Table{table(1, "0:1000aaaaaaaaaaaa"), table(1, "0:1")}, "A B by", 10, 0, api.OK, api.OK},
		{[]api.Table{table(1, "0:1000aaaaaaaaaaaa"), table(1, "0:b")}, "A B by", 10, 0, api.OK, api.OK},
		// Rows with the number 0 are left out before they are counted.
		{[]api.Table{rowsOf(1, 0, 60, "a"), table(1, "60:b")}, "A B or", 1, 0, api.OK, api.ErrLimit},
		{[]api.Table{rowsOf(1, 0, 60, "a"), table(1, "60:b")}, "A B or", 1, 1, api.ErrLimit, api.ErrLimit},
		{[]api.Table{rowsOf(1, 0, 60, "b"), rowsOf(1, 60, 60, "b")}, "A B or", 1, 0, api.OK, api.ErrLimit},
		{[]api.Table{crossed(60), table(2, "0,1:a", "0,2:b")}, "A B by", 1, 0, api.OK, api.ErrLimit},
		{[]api.Table{crossed(60), table(2, "0,1:a", "0,2:b")}, "A B by", 0, 1, api.OK, api.ErrLimit},
		{[]api.Table{crossed(60), table(2, "0,1:a", "0,2:b")}, "A B by", 1, 1, api.ErrLimit, api.ErrLimit},
		{[]api.Table{crossed(30), table(2, "0,1:a", "0,2:b")}, "A B by", 1, 1, api.OK, api.OK},
		// There is no limit for products here.
		{[]api.Table{table(1, "0:aaaaaaaaaaaa")}, "A A by", 1, 0, api.OK, api.OK},
		{[]api.Table{table(1, "0:100000a")}, "A A or", 1, 0, api.OK, api.OK},
		{[]api.Table{{Wide: 1, Rows: []api.Row{{Values: []int{0}, From: many(40, 1)}}}}, "A A by", 1, 0, api.OK, api.OK},
	} {
		numbers := slices.Clone(tens)
		numbers[0], numbers[1] = c.a, c.b
		all, _ := played(c.t, c.query)
		if _, _, ok := countsOf(all, numbers); ok != (c.counts == api.OK) {
			t.Errorf("Counts(%q) of %v: the chapter says %v", c.query, c.t, ok)
		}
		values, got, err := Counts(c.t, c.query, numbers)
		if err != c.counts || err != api.OK && (len(values) > 0 || len(got) > 0) {
			t.Errorf("Counts(%q) of %v: %v, %v, %d, want %d", c.query, c.t, values, got, err, c.counts)
		}
		values, got, err = Costs(c.t, c.query, numbers)
		if err != c.costs || err != api.OK && (len(values) > 0 || len(got) > 0) {
			t.Errorf("Costs(%q) of %v: %v, %v, %d, want %d", c.query, c.t, values, got, err, c.costs)
		}
	}
}

// TestLargeAnswers: P9.5 at once with many rows and products, so that it stays fast and
// sound where all is as large as can be.
func TestLargeAnswers(t *testing.T) {
	var x []api.Table
	for n := range 4 {
		y := api.Table{Wide: 2}
		for a := range 60 {
			y.Rows = append(y.Rows, api.Row{Values: []int{a / (1 + 59*(n%2)), a}, From: many(40, 1+n)})
		}
		x = append(x, y)
	}
	for query, want := range map[string]api.Errno{
		"A C or": api.OK, "A C or drop1": api.OK, "A C or drop0": api.OK, "B D or drop1": api.OK, "B D by": api.ErrLimit, "A B by": api.ErrLimit, "A A by A by": api.ErrLimit,
		"B B or B or B or B or B or": api.OK, "B D by drop0": api.ErrLimit, "A B or": api.ErrLimit,
	} {
		if y, err := Ask(x, query); err != want || err == api.OK && !isTable(y) {
			t.Errorf("Ask(%q): %v, %d", query, y, err)
		}
	}
}

// TestBothExamples: the chapter's second example.
func TestBothExamples(t *testing.T) {
	s := of("2a+ab+bc")
	why := sure[[]string](t, "Why")(Why(s))
	value := sure[int](t, "Value")(Value(s, slices.Repeat([]int{1}, 8)))
	left := sure[[]api.Product](t, "Spared")(Spared(s, "a"))
	if !slices.Equal(why, []string{"a", "bc"}) || value != 4 || !slices.Equal(left, of("bc")) {
		t.Errorf("%q, %d, %v", why, value, left)
	}
}
