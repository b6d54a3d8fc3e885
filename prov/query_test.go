package prov

import (
	"maps"
	"math/rand"
	"regexp"
	"slices"
	"strconv"
	"strings"
	"testing"

	"firn/api"
)

// wordForm has the words of queries.
var wordForm = regexp.MustCompile(`^(?:([A-D])|(or)|(by)|drop([0-9])|pick([0-9])=(0|-?[1-9][0-9]{0,2})|same([0-9])([0-9]))$`)

// relation is a table with the polynomial of each row, by its values.
type relation struct {
	wide int
	rows map[[4]int]polynomial
}

// room makes of values a key.
func room(values []int) [4]int {
	var key [4]int
	copy(key[:], values)
	return key
}

func (r relation) add(values []int, p polynomial) {
	key := room(values)
	if old, ok := r.rows[key]; ok {
		p = old.plus(p)
	}
	r.rows[key] = p
}

// size returns how many products there are.
func (r relation) size() int {
	n := 0
	for _, p := range r.rows {
		n += len(p)
	}
	return n
}

// values returns the values of all rows in ascending order.
func (r relation) values() [][]int {
	var all [][]int
	for _, key := range slices.SortedFunc(maps.Keys(r.rows), func(a, b [4]int) int { return slices.Compare(a[:], b[:]) }) {
		all = append(all, slices.Clone(key[:r.wide]))
	}
	return all
}

func newRelation(wide int) relation {
	return relation{wide, map[[4]int]polynomial{}}
}

func relationOf(x api.Table) relation {
	r := newRelation(x.Wide)
	for _, row := range x.Rows {
		r.add(row.Values, polynomialOf(row.From))
	}
	return r
}

// each returns the relation of what change makes of all values; nil is none.
func (r relation) each(wide int, change func(values []int) []int) relation {
	made := newRelation(wide)
	for key, p := range r.rows {
		if values := change(slices.Clone(key[:r.wide])); values != nil {
			made.add(values, p)
		}
	}
	return made
}

// joinedBy returns what `by` makes of two relations.
func joinedBy(u, v relation) relation {
	made := newRelation(u.wide + v.wide - 1)
	for a, p := range u.rows {
		for b, q := range v.rows {
			if a[0] == b[0] {
				made.add(slices.Concat(a[:u.wide], b[1:v.wide]), p.times(q))
			}
		}
	}
	return made
}

// madeOfTwo returns what `or` and `by` make of two tables, u below v.
func madeOfTwo(word string, u, v relation) (made relation, valid bool) {
	if word == "by" {
		if u.wide+v.wide-1 > 4 {
			return relation{}, false
		}
		return joinedBy(u, v), true
	}
	if u.wide != v.wide {
		return relation{}, false
	}
	made = newRelation(u.wide)
	for _, r := range []relation{u, v} {
		for key, p := range r.rows {
			made.add(key[:r.wide], p)
		}
	}
	return made, true
}

// madeOfOne returns what a word, in its parts, makes of a table.
func madeOfOne(m []string, r relation) (made relation, valid bool) {
	number := func(n int) int {
		x, _ := strconv.Atoi(m[n])
		return x
	}
	if m[4] != "" {
		n := number(4)
		if r.wide < 2 || n >= r.wide {
			return relation{}, false
		}
		return r.each(r.wide-1, func(values []int) []int { return append(values[:n], values[n+1:]...) }), true
	}
	stays := func(values []int) bool { return values[number(5)] == number(6) }
	if m[5] == "" {
		stays = func(values []int) bool { return values[number(7)] == values[number(8)] }
	}
	// What a word does not have is 0, a column that is there always.
	if max(number(5), number(7), number(8)) >= r.wide {
		return relation{}, false
	}
	return r.each(r.wide, func(values []int) []int {
		if !stays(values) {
			return nil
		}
		return values
	}), true
}

// madeBy returns what a word puts on the pile, and how many tables it takes off.
func madeBy(t []api.Table, word string, stack []relation) (made relation, takes int, valid bool) {
	m := wordForm.FindStringSubmatch(word)
	last := len(stack) - 1
	switch {
	case m == nil:
		return relation{}, 0, false
	case m[1] != "":
		if a := int(word[0] - 'A'); a < len(t) {
			return relationOf(t[a]), 0, true
		}
		return relation{}, 0, false
	case m[2] != "" || m[3] != "":
		if last < 1 {
			return relation{}, 0, false
		}
		made, valid = madeOfTwo(word, stack[last-1], stack[last])
		return made, 2, valid
	case last < 0:
		return relation{}, 0, false
	}
	made, valid = madeOfOne(m, stack[last])
	return made, 1, valid
}

// tooLarge is how many products played does not form.
const tooLarge = 20000

// played goes through a query by the chapter's words, without limits. It returns each
// table that is put on the pile, the answer last; there is none if the query is not
// valid, or if a table is too large.
func played(t []api.Table, query string) (all []relation, valid bool) {
	words := strings.Split(query, " ")
	if len(words) > 12 {
		return nil, false
	}
	var stack []relation
	for _, word := range words {
		made, takes, valid := madeBy(t, word, stack)
		if !valid {
			return nil, false
		}
		if made.size() > tooLarge {
			return nil, validWides(t, query)
		}
		stack = append(stack[:len(stack)-takes], made)
		all = append(all, made)
	}
	return all, len(stack) == 1
}

// validWides tells by tables without rows whether a query is valid.
func validWides(t []api.Table, query string) bool {
	var empty []api.Table
	for _, x := range t {
		empty = append(empty, api.Table{Wide: x.Wide})
	}
	_, valid := played(empty, query)
	return valid
}

// randomWord returns a word that is mostly valid for a pile of so many tables, the
// upper ones of these Wide.
func randomWord(next func(int) int, tables int, wides []int) string {
	column := func(wide int) string { return strconv.Itoa(next(wide)) }
	top := 0
	if len(wides) > 0 {
		top = wides[len(wides)-1]
	}
	for {
		switch next(7) {
		case 0, 1:
			if len(wides) < 3 {
				return string(rune('A' + next(tables)))
			}
		case 2:
			if len(wides) > 1 && top == wides[len(wides)-2] {
				return "or"
			}
		case 3:
			if len(wides) > 1 && top+wides[len(wides)-2] <= 5 {
				return "by"
			}
		case 4:
			if top > 1 {
				return "drop" + column(top)
			}
		case 5:
			if top > 0 && next(2) == 0 {
				return "pick" + column(top) + "=" + strconv.Itoa(next(4)-1)
			}
		case 6:
			if top > 0 && next(2) == 0 {
				return "same" + column(top) + column(top)
			}
		}
		if len(wides) > 2 && next(20) == 0 {
			return "or"
		}
	}
}

// randomQuery returns a query that is mostly valid for tables.
func randomQuery(next func(int) int, t []api.Table) string {
	n := 1 + next(12)
	for {
		var words []string
		var wides []int
		for range n {
			w := randomWord(next, len(t), wides)
			words = append(words, w)
			wides = widesAfter(t, wides, w)
		}
		if len(wides) == 1 || next(60) == 0 {
			return strings.Join(words, " ")
		}
	}
}

// widesAfter returns the Wides behind a word that is valid, and other ones behind one
// that is not.
func widesAfter(t []api.Table, wides []int, w string) []int {
	last := len(wides) - 1
	switch {
	case len(w) == 1:
		return append(wides, t[w[0]-'A'].Wide)
	case w == "or":
		return wides[:last]
	case w == "by":
		wides[last-1] += wides[last] - 1
		return wides[:last]
	case strings.HasPrefix(w, "drop"):
		wides[last]--
	}
	return wides
}

// TestQueriesByHand: P9.5, which queries are valid, and the Wide of their answers; 0 is none.
func TestQueriesByHand(t *testing.T) {
	x := []api.Table{table(2, "1,2:a"), table(3, "1,5,6:b"), table(1, "1:c")}
	twelve := "A A or A or A or A or A or drop1"
	for query, want := range map[string]int{
		"A": 2, "B": 3, "C": 1, "D": 0, "E": 0, "a": 0, "@": 0, "AB": 0, "AA": 0,
		"": 0, " ": 0, " A": 0, "A ": 0, "A  A or": 0, "A A  or": 0, "A\tA or": 0, "A\n": 0, "A,A or": 0, "A A or ": 0, "A\x00": 0, "\xff": 0, "Á": 0,
		"or": 0, "by": 0, "A or": 0, "A by": 0, "or A A": 0, "A or A": 0, "A A or": 2, "A A or or": 0, "A A A or": 0, "A A A or or": 2, "A B or": 0, "B B or": 3, "C A or": 0, "A A": 0, "A B C": 0,
		"A OR": 0, "A A Or": 0, "A A orr": 0, "A A o": 0, "A A or0": 0, "A A by0": 0, "A A byby": 0, "A A not": 0,
		"A A by": 3, "A B by": 4, "B A by": 4, "B B by": 0, "A A by A by": 4, "A A by A by A by": 0, "A A A A by by by": 0, "C C by": 1, "A C by": 2, "C A by": 2, "B C by C by": 3, "B B by drop0": 0, "B drop1 B by": 4, "B A by A by": 0, "B A by C by": 4,
		"A drop0": 1, "A drop1": 1, "A drop2": 0, "A drop9": 0, "B drop0 drop0": 1, "B drop2 drop1": 1, "B drop2 drop2": 0, "C drop0": 0, "A drop0 drop0": 0, "C drop1": 0, "B drop2": 2, "B drop3": 0,
		"drop0": 0, "A drop": 0, "A drop00": 0, "A drop01": 0, "A drop-1": 0, "A drop+1": 0, "A dropA": 0, "A drop 0": 0, "A Drop0": 0, "A drop0 ": 0, "A drop:": 0, "A drop/": 0, "A drop١": 0,
		"A pick0=1": 2, "A pick1=0": 2, "A pick2=0": 0, "A pick9=0": 0, "B pick2=0": 3, "C pick0=0": 1, "C pick1=0": 0, "A pick0=-1": 2, "A pick0=999": 2, "A pick0=-999": 2, "A pick0=10": 2, "A pick0=100": 2,
		"A pick0=1000": 0, "A pick0=-1000": 0, "A pick0=-0": 0, "A pick0=00": 0, "A pick0=01": 0, "A pick0=-01": 0, "A pick0=+1": 0, "A pick0=": 0, "A pick0": 0, "A pick": 0, "A pick=1": 0, "A pick00=1": 0, "A pick0==1": 0,
		"A pick0=-": 0, "A pick0=--1": 0, "A pick0=1.0": 0, "A pick0=1e2": 0, "A pick0=0x1": 0, "A pick0=1_0": 0, "A pick0= 1": 0, "A pick-1=1": 0, "A pick0=1=1": 0, "A pickA=1": 0, "A pick0:1": 0, "A Pick0=1": 0, "pick0=1": 0,
		"A pick0=18446744073709551617": 0, "A pick0=4294967297": 0, "A pick0=9223372036854775808": 0, "A pick0=١": 0,
		"A same00": 2, "A same01": 2, "A same10": 2, "A same11": 2, "A same02": 0, "A same20": 0, "A same22": 0, "B same12": 3, "B same03": 0, "C same00": 1, "C same01": 0, "C same10": 0,
		"same00": 0, "A same": 0, "A same0": 0, "A same000": 0, "A same0-1": 0, "A same0 1": 0, "A same0,1": 0, "A sameAB": 0, "A Same01": 0, "A same0=1": 0, "A same0:": 0, "A same:0": 0, "A same٠": 0,
		twelve: 1, twelve + " pick0=1": 0, "A A or A or A or A or A or A or": 0, "A A A A A A or or or or or": 2, "A" + strings.Repeat(" drop1", 11): 0, "A" + strings.Repeat(" same01", 11): 2, "A" + strings.Repeat(" same01", 12): 0,
		strings.Repeat("A ", 1<<16): 0, strings.Repeat("A", 1<<16): 0, strings.Repeat(" ", 1<<16): 0, "A pick0=" + strings.Repeat("9", 1<<16): 0, strings.Repeat("or ", 11) + "or": 0,
	} {
		err := api.OK
		if want == 0 {
			err = api.ErrQuery
		}
		if wide, e := Wide(x, query); wide != want || e != err {
			t.Errorf("Wide(%.40q): %d, %d, want %d, %d", query, wide, e, want, err)
		}
		for name, f := range callsOfTables(x, query, good(), good(), "a") {
			if nothing, e := f(); name != "Without" && (e != err || e != api.OK && !nothing) {
				t.Errorf("%s(%.40q): error %d, zero: %v, want %d", name, query, e, nothing, err)
			}
		}
	}
}

// TestQueriesOfNames: P9.5, of 1 to 4 tables just these can be named.
func TestQueriesOfNames(t *testing.T) {
	var x []api.Table
	for n := 1; n <= 4; n++ {
		x = append(x, table(n))
		for b := range 256 {
			want, err := 0, api.ErrQuery
			if a := b - 'A'; 0 <= a && a < n {
				want, err = a+1, api.OK
			}
			if wide, e := Wide(x, string([]byte{byte(b)})); wide != want || e != err {
				t.Errorf("Wide of %d tables, byte %d: %d, %d", n, b, wide, e)
			}
		}
	}
}

// TestShortQueries: P9.5, all queries of up to four of some words.
func TestShortQueries(t *testing.T) {
	x := []api.Table{table(1, "1:a"), table(2, "1,2:b", "2,2:c"), table(3, "1,1,1:a+d")}
	words := []string{"A", "B", "C", "or", "by", "drop0", "drop1", "drop2", "pick0=1", "pick1=2", "pick2=1", "same01", "same12", "D"}
	valid := 0
	var hold func(query string, n int)
	hold = func(query string, n int) {
		all, ok := played(x, query)
		wide, err := Wide(x, query)
		if ok {
			valid++
		}
		if (err == api.OK) != ok || ok && wide != all[len(all)-1].wide || !ok && (wide != 0 || err != api.ErrQuery) {
			t.Fatalf("Wide(%q): %d, %d", query, wide, err)
		}
		if n > 0 {
			for _, w := range words {
				hold(query+" "+w, n-1)
			}
		}
	}
	for _, w := range words {
		hold(w, 3)
	}
	if valid < 500 {
		t.Errorf("%d are valid", valid)
	}
}

// TestQueriesChanged: P9.5, valid queries with one word or one byte changed.
func TestQueriesChanged(t *testing.T) {
	next := rand.New(rand.NewSource(12)).Intn
	valid := 0
	for range 5000 {
		x := randomTables(next)
		query := randomQuery(next, x)
		a := next(len(query))
		other := query[:a] + []string{"", " ", "A", "D", "0", "1", "3", "9", "=", "-", "or", "by "}[next(12)] + query[a+next(2):]
		_, ok := played(x, other)
		wide, err := Wide(x, other)
		if ok {
			valid++
		}
		if ok != (err == api.OK || err == api.ErrLimit) || !ok && err != api.ErrQuery || (wide > 0) != (err == api.OK) {
			t.Fatalf("Wide(%v, %q): %d, %d", x, other, wide, err)
		}
	}
	if valid < 300 || valid > 4700 {
		t.Errorf("%d are valid", valid)
	}
}
