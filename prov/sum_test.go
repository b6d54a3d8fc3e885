package prov

import (
	"math/big"
	"math/rand"
	"slices"
	"strings"
	"testing"

	"firn/api"
)

// polynomial has the Times of each list of how often each token is there, exactly.
type polynomial map[[8]int]*big.Int

// polynomialOf returns a sum as a polynomial.
func polynomialOf(s []api.Product) polynomial {
	p := polynomial{}
	for _, x := range s {
		var powers [8]int
		for _, token := range x.Tokens {
			powers[token-'a']++
		}
		p.add(powers, big.NewInt(int64(x.Times)))
	}
	return p
}

func (p polynomial) add(powers [8]int, times *big.Int) {
	if p[powers] == nil {
		p[powers] = new(big.Int)
	}
	p[powers].Add(p[powers], times)
}

func (p polynomial) plus(q polynomial) polynomial {
	r := polynomial{}
	for _, each := range []polynomial{p, q} {
		for powers, times := range each {
			r.add(powers, times)
		}
	}
	return r
}

func (p polynomial) times(q polynomial) polynomial {
	r := polynomial{}
	for a, m := range p {
		for b, n := range q {
			var powers [8]int
			for x := range powers {
				powers[x] = a[x] + b[x]
			}
			r.add(powers, new(big.Int).Mul(m, n))
		}
	}
	return r
}

// sum returns the products of a polynomial in their order, and whether they are within
// all limits.
func (p polynomial) sum() ([]api.Product, bool) {
	var s []api.Product
	for powers, times := range p {
		x := api.Product{Times: 1 << 40}
		if times.IsInt64() {
			x.Times = int(times.Int64())
		}
		for a, n := range powers {
			x.Tokens += strings.Repeat(string(rune('a'+a)), n)
		}
		if len(x.Tokens) > 12 || x.Times > 100000 {
			return nil, false
		}
		s = append(s, x)
	}
	slices.SortFunc(s, func(x, y api.Product) int { return strings.Compare(x.Tokens, y.Tokens) })
	return s, len(s) <= 40
}

// value returns the value of a polynomial.
func (p polynomial) value(numbers []int) *big.Int {
	sum := new(big.Int)
	for powers, times := range p {
		product := new(big.Int).Set(times)
		for a, n := range powers {
			for range n {
				product.Mul(product, big.NewInt(int64(numbers[a])))
			}
		}
		sum.Add(sum, product)
	}
	return sum
}

// cost returns the cost of a polynomial that is not 0.
func (p polynomial) cost(costs []int) int {
	least := -1
	for powers := range p {
		sum := 0
		for a, n := range powers {
			sum += n * costs[a]
		}
		if least < 0 || sum < least {
			least = sum
		}
	}
	return least
}

func randomList(next func(int) int, most int) []int {
	list := make([]int, 8)
	for a := range list {
		list[a] = next(most + 1)
		if next(4) == 0 {
			list[a] = 0
		}
	}
	return list
}

// TestValidSum: P9.2.
func TestValidSum(t *testing.T) {
	for _, s := range invalidSums() {
		if ValidSum(s) {
			t.Errorf("ValidSum(%v)", s)
		}
	}
	manySums(5, 2000, func(s []api.Product, next func(int) int) {
		if !ValidSum(s) {
			t.Fatalf("not ValidSum(%v)", s)
		}
		if len(s) == 0 {
			return
		}
		s = slices.Clone(s)
		p := &s[next(len(s))]
		switch next(5) {
		case 0:
			p.Times = append([]int{0, 1, -1, 100000, 100001}, extremes...)[next(5+len(extremes))]
		case 1:
			p.Tokens += string(byte('`' + next(10)))
		case 2:
			p.Tokens = string(byte('`'+next(10))) + p.Tokens
		case 3:
			s[0], *p = *p, s[0]
		case 4:
			s = append(s, *p)
		}
		if ValidSum(s) != isSum(s) {
			t.Fatalf("ValidSum(%v): %v", s, !isSum(s))
		}
	})
}

// TestPlusAndTimesByHand: P9.2.
func TestPlusAndTimesByHand(t *testing.T) {
	for _, c := range []struct{ s, t, plus, times string }{
		{"0", "0", "0", "0"}, {"0", "a", "a", "0"}, {"a", "0", "a", "0"}, {"1", "1", "2", "1"}, {"1", "a", "1+a", "a"}, {"a", "a", "2a", "aa"},
		{"a", "b", "a+b", "ab"}, {"b", "a", "a+b", "ab"}, {"3", "4a", "3+4a", "12a"}, {"a+b", "a+b", "2a+2b", "aa+2ab+bb"}, {"1+a", "1+b", "2+a+b", "1+a+ab+b"},
		{"ac", "b", "ac+b", "abc"}, {"aa+ab", "a", "a+aa+ab", "aaa+aab"}, {"2a+ab+bc", "a", "3a+ab+bc", "2aa+aab+abc"}, {"h", "aaa", "aaa+h", "aaah"},
	} {
		if x, err := Plus(of(c.s), of(c.t)); !slices.Equal(x, of(c.plus)) || err != api.OK {
			t.Errorf("Plus(%s, %s): %v, %d, want %s", c.s, c.t, x, err, c.plus)
		}
		if x, err := Times(of(c.s), of(c.t)); !slices.Equal(x, of(c.times)) || err != api.OK {
			t.Errorf("Times(%s, %s): %v, %d, want %s", c.s, c.t, x, err, c.times)
		}
	}
}

// TestLimitsOfSums: P9.1 and P9.2, just within each limit and just above it.
func TestLimitsOfSums(t *testing.T) {
	all := many(41, 1)
	heavy := many(40, 50000)
	for _, c := range []struct {
		s, t        []api.Product
		plus, times api.Errno
	}{
		{of("99999a"), of("a"), api.OK, api.OK}, {of("100000a"), of("a"), api.ErrLimit, api.OK}, {of("99999"), of("2"), api.ErrLimit, api.ErrLimit},
		{of("50000"), of("2"), api.OK, api.OK}, {of("50001b"), of("2"), api.OK, api.ErrLimit}, {of("100000"), of("100000a"), api.OK, api.ErrLimit},
		{of("50000a+50000b"), of("a+b"), api.OK, api.OK}, {of("50001a+50000b"), of("a+b"), api.OK, api.ErrLimit}, {of("1+50000a"), of("50001+a"), api.OK, api.ErrLimit},
		{heavy, heavy, api.OK, api.ErrLimit}, {many(40, 50001), heavy, api.ErrLimit, api.ErrLimit}, {many(40, 100000), many(40, 100000), api.ErrLimit, api.ErrLimit},
		{of("aaaaaa"), of("bbbbbb"), api.OK, api.OK}, {of("aaaaaa"), of("bbbbbbb"), api.OK, api.ErrLimit}, {of("aaaaaaaaaaaa"), of("1"), api.OK, api.OK},
		{of("aaaaaaaaaaaa"), of("a"), api.OK, api.ErrLimit}, {of("aaaaaaaaaaaa"), of("1+h"), api.OK, api.ErrLimit}, {of("abcdefgh"), of("abcd"), api.OK, api.OK},
		{all[1:], all[:40], api.ErrLimit, api.ErrLimit}, {all[:40], all[:40], api.OK, api.ErrLimit}, {all[:40], all[40:], api.ErrLimit, api.OK}, {all[:39], all[39:40], api.OK, api.OK},
		{all[:20], all[20:40], api.OK, api.ErrLimit}, {all[:20], all[20:], api.ErrLimit, api.ErrLimit}, {all[:30], all[10:40], api.OK, api.ErrLimit},
		{of("1+a+b+c+d"), of("1+e+f+g+h+ee+ff+gg"), api.OK, api.OK},
	} {
		c.t = slices.SortedFunc(slices.Values(c.t), func(x, y api.Product) int { return strings.Compare(x.Tokens, y.Tokens) })
		for name, f := range map[string]func(s, t []api.Product) ([]api.Product, api.Errno){"Plus": Plus, "Times": Times} {
			want := map[string]api.Errno{"Plus": c.plus, "Times": c.times}[name]
			for _, pair := range [][2][]api.Product{{c.s, c.t}, {c.t, c.s}} {
				if x, err := f(pair[0], pair[1]); err != want || (err == api.OK) != (len(x) > 0) {
					t.Errorf("%s of %v and %v: %v, %d, want %d", name, pair[0], pair[1], x, err, want)
				}
			}
		}
	}
}

// TestPlusAndTimes: P9.2, as polynomials.
func TestPlusAndTimes(t *testing.T) {
	limits := 0
	manySums(6, 4000, func(s []api.Product, next func(int) int) {
		other := randomSum(next, []int{2, 6, 40}[next(3)], []int{2, 6, 12}[next(3)], []int{3, 300, 100000}[next(3)])
		p, q := polynomialOf(s), polynomialOf(other)
		for name, c := range map[string]struct {
			f    func(s, t []api.Product) ([]api.Product, api.Errno)
			want polynomial
		}{"Plus": {Plus, p.plus(q)}, "Times": {Times, p.times(q)}} {
			want, ok := c.want.sum()
			x, err := c.f(s, other)
			if !ok {
				limits++
				want = nil
			}
			if !slices.Equal(x, want) || (err == api.OK) != ok || !ok && err != api.ErrLimit {
				t.Fatalf("%s of %v and %v: %v, %d, want %v", name, s, other, x, err, want)
			}
		}
	})
	if limits < 500 {
		t.Errorf("%d limits", limits)
	}
}

// TestValueByHand: P9.3.
func TestValueByHand(t *testing.T) {
	ones, tens := slices.Repeat([]int{1}, 8), slices.Repeat([]int{10}, 8)
	for _, c := range []struct {
		sum     string
		numbers []int
		want    int
	}{
		{"0", tens, 0}, {"7", tens, 7}, {"7", make([]int, 8), 7}, {"7a", make([]int, 8), 0}, {"2a+ab+bc", ones, 4}, {"2a+ab+bc", good(), 2 + 2 + 6}, {"h", good(), 8},
		{"abcdefgh", good(), 40320}, {"aab+3hh", []int{5, 7, 0, 0, 0, 0, 0, 2}, 175 + 12}, {"1+a", []int{0, 1, 1, 1, 1, 1, 1, 1}, 1}, {"100000aaaaaaaaaaaa", tens, 100_000_000_000_000_000},
	} {
		if x, err := Value(of(c.sum), c.numbers); x != c.want || err != api.OK {
			t.Errorf("Value(%s, %v): %d, %d, want %d", c.sum, c.numbers, x, err, c.want)
		}
	}
}

// TestCostByHand: P9.3.
func TestCostByHand(t *testing.T) {
	most := slices.Repeat([]int{1000}, 8)
	for _, c := range []struct {
		sum   string
		costs []int
		want  int
	}{
		{"7", most, 0}, {"a", most, 1000}, {"100000aaaaaaaaaaaa", most, 12000}, {"2a+ab+bc", good(), 1}, {"bc+hh", good(), 5}, {"aab", []int{5, 7, 0, 0, 0, 0, 0, 0}, 17},
		{"aa+b", []int{5, 7, 9, 9, 9, 9, 9, 9}, 7}, {"aa+b", []int{3, 7, 9, 9, 9, 9, 9, 9}, 6}, {"1+a", good(), 0}, {"a+b", []int{1, 0, 1, 1, 1, 1, 1, 1}, 0}, {"abcdefgh", good(), 36}, {"h", good(), 8},
	} {
		if x, err := Cost(of(c.sum), c.costs); x != c.want || err != api.OK {
			t.Errorf("Cost(%s, %v): %d, %d, want %d", c.sum, c.costs, x, err, c.want)
		}
	}
}

// TestValueAndCost: P9.3, exactly, up to the greatest numbers.
func TestValueAndCost(t *testing.T) {
	var twelve []api.Product
	for _, p := range many(4000, 100000) {
		if len(p.Tokens) == 4 && len(twelve) < 40 {
			twelve = append(twelve, api.Product{Tokens: p.Tokens + strings.Repeat("h", 8), Times: 100000})
		}
	}
	if x := sure[int](t, "Value")(Value(twelve, slices.Repeat([]int{10}, 8))); x != 4_000_000_000_000_000_000 {
		t.Errorf("the greatest value: %d", x)
	}
	manySums(7, 3000, func(s []api.Product, next func(int) int) {
		p := polynomialOf(s)
		numbers, costs := randomList(next, []int{1, 2, 10}[next(3)]), randomList(next, []int{1, 9, 1000}[next(3)])
		if x := sure[int](t, "Value")(Value(s, numbers)); p.value(numbers).Cmp(big.NewInt(int64(x))) != 0 {
			t.Fatalf("Value(%v, %v): %d", s, numbers, x)
		}
		if len(s) == 0 {
			return
		}
		if x := sure[int](t, "Cost")(Cost(s, costs)); x != p.cost(costs) {
			t.Fatalf("Cost(%v, %v): %d", s, costs, x)
		}
	})
}

// TestWhyByHand: P9.3 and P9.8.
func TestWhyByHand(t *testing.T) {
	for sum, want := range map[string][]string{
		"0": nil, "1": {""}, "7": {""}, "1+a+bc": {""}, "a": {"a"}, "aaa": {"a"}, "2a+ab+bc": {"a", "bc"}, "aab+ab": {"ab"}, "aab+abb": {"ab"}, "ab+ac+bc": {"ab", "ac", "bc"},
		"abc+d+ef": {"d", "ef", "abc"}, "ab+b": {"b"}, "ab+abc+c": {"c", "ab"}, "aabbcc+h": {"h", "abc"}, "ac+b": {"b", "ac"}, "abcdefgh": {"abcdefgh"}, "aa+aaa+ab+b": {"a", "b"}, "ad+bc": {"ad", "bc"},
	} {
		s := sure[[]api.Product](t, "Plus")(Plus(of(sum), nil))
		if x, err := Why(s); !slices.Equal(x, want) || err != api.OK {
			t.Errorf("Why(%s): %q, %d, want %q", sum, x, err, want)
		}
	}
}

// within reports whether all tokens of a text are in a set of them.
func within(text string, set int) bool {
	for _, token := range text {
		if set>>(token-'a')&1 == 0 {
			return false
		}
	}
	return true
}

// TestWhyAndTokens: P9.3, over all sets of tokens: by a set a sum is there if it has a
// product of its tokens alone.
func TestWhyAndTokens(t *testing.T) {
	manySums(8, 1500, func(s []api.Product, _ func(int) int) {
		there := func(set int) bool {
			return slices.ContainsFunc(s, func(p api.Product) bool { return within(p.Tokens, set) })
		}
		var want [9][]string
		tokens := ""
		for set := range 256 {
			text, isLeast := "", there(set)
			for a := range 8 {
				if set>>a&1 == 1 {
					text += string(rune('a' + a))
					isLeast = isLeast && !there(set&^(1<<a))
				}
			}
			if isLeast {
				want[len(text)] = append(want[len(text)], text)
			}
		}
		var all []string
		for _, l := range want {
			slices.Sort(l)
			all = append(all, l...)
		}
		if x := sure[[]string](t, "Why")(Why(s)); !slices.Equal(x, all) {
			t.Fatalf("Why(%v): %q, want %q", s, x, all)
		}
		for token := 'a'; token <= 'h'; token++ {
			if slices.ContainsFunc(s, func(p api.Product) bool { return strings.ContainsRune(p.Tokens, token) }) {
				tokens += string(token)
			}
		}
		if x := sure[string](t, "Tokens")(Tokens(s)); x != tokens {
			t.Fatalf("Tokens(%v): %q, want %q", s, x, tokens)
		}
	})
}

// TestSparedByHand: P9.3.
func TestSparedByHand(t *testing.T) {
	for _, c := range [][3]string{
		{"0", "a", "0"}, {"1", "a", "1"}, {"a", "a", "0"}, {"a", "b", "a"}, {"2a+ab+bc", "a", "bc"}, {"2a+ab+bc", "b", "2a"}, {"2a+ab+bc", "c", "2a+ab"}, {"2a+ab+bc", "h", "2a+ab+bc"},
		{"3+aab+abb+hh", "b", "3+hh"}, {"3+aab+abb+hh", "h", "3+aab+abb"},
	} {
		if x, err := Spared(of(c[0]), c[1]); !slices.Equal(x, of(c[2])) || err != api.OK {
			t.Errorf("Spared(%s, %s): %v, %d, want %s", c[0], c[1], x, err, c[2])
		}
	}
}

// TestSpared: P9.3 and P9.8.
func TestSpared(t *testing.T) {
	manySums(9, 1000, func(s []api.Product, next func(int) int) {
		tokens := sure[string](t, "Tokens")(Tokens(s))
		for a := range 8 {
			token := string(rune('a' + a))
			x := sure[[]api.Product](t, "Spared")(Spared(s, token))
			var want []api.Product
			for _, p := range s {
				if within(p.Tokens, 255&^(1<<a)) {
					want = append(want, p)
				}
			}
			if !slices.Equal(x, want) || !isSum(x) || !strings.Contains(tokens, token) && !slices.Equal(x, s) {
				t.Fatalf("Spared(%v, %s): %v", s, token, x)
			}
			numbers := randomList(next, 10)
			value := sure[int](t, "Value")(Value(x, numbers))
			numbers[a] = 0
			if y := sure[int](t, "Value")(Value(s, numbers)); y != sure[int](t, "Value")(Value(x, numbers)) || y != value {
				t.Fatalf("Value(%v, %v): %d, that of Spared: %d", s, numbers, y, value)
			}
		}
	})
}

// TestLaws: P9.8, where there is no ErrLimit.
func TestLaws(t *testing.T) {
	next := rand.New(rand.NewSource(10)).Intn
	for range 3000 {
		small := func() []api.Product { return randomSum(next, 3, 4, 5) }
		r, s, u := small(), small(), small()
		sum, product := sure[[]api.Product](t, "Plus")(Plus(r, s)), sure[[]api.Product](t, "Times")(Times(r, s))
		others, both := sure[[]api.Product](t, "Plus")(Plus(s, u)), sure[[]api.Product](t, "Times")(Times(s, u))
		for name, l := range map[string][2][]api.Product{
			"Plus turned":     {sum, sure[[]api.Product](t, "Plus")(Plus(s, r))},
			"Times turned":    {product, sure[[]api.Product](t, "Times")(Times(s, r))},
			"Plus in order":   {sure[[]api.Product](t, "Plus")(Plus(sum, u)), sure[[]api.Product](t, "Plus")(Plus(r, others))},
			"Times in order":  {sure[[]api.Product](t, "Times")(Times(product, u)), sure[[]api.Product](t, "Times")(Times(r, both))},
			"Times over Plus": {sure[[]api.Product](t, "Times")(Times(sum, u)), sure[[]api.Product](t, "Plus")(Plus(sure[[]api.Product](t, "Times")(Times(r, u)), both))},
		} {
			if !slices.Equal(l[0], l[1]) {
				t.Fatalf("%s of %v, %v, %v: %v, %v", name, r, s, u, l[0], l[1])
			}
		}
		numbers, costs := randomList(next, 10), randomList(next, 1000)
		value := func(s []api.Product) int { return sure[int](t, "Value")(Value(s, numbers)) }
		if value(sum) != value(r)+value(s) || value(product) != value(r)*value(s) {
			t.Fatalf("values of %v, %v with %v", r, s, numbers)
		}
		if len(r) == 0 || len(s) == 0 {
			continue
		}
		cost := func(s []api.Product) int { return sure[int](t, "Cost")(Cost(s, costs)) }
		if cost(sum) != min(cost(r), cost(s)) || cost(product) != cost(r)+cost(s) {
			t.Fatalf("costs of %v, %v with %v", r, s, costs)
		}
	}
}
