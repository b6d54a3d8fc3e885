package tick

import (
	"math"
	"math/big"
	"math/rand"
	"slices"
	"testing"

	"firn/api"
)

const example = "0=10 10=30 20=60"

// numbers returns a function that returns always the same numbers below others.
func numbers(seed int64) func(int) int {
	return rand.New(rand.NewSource(seed)).Intn
}

func ratio(n, d int) api.Ratio { return api.Ratio{N: n, D: d} }

func marks(pairs ...int) []api.Mark {
	var c []api.Mark
	for i := 0; i < len(pairs); i += 2 {
		c = append(c, api.Mark{Local: pairs[i], True: pairs[i+1]})
	}
	return c
}

// longClock returns a clock of so many marks.
func longClock(n int) []api.Mark {
	var c []api.Mark
	for i := range n {
		c = append(c, api.Mark{Local: i, True: i * i})
	}
	return c
}

func clock(t *testing.T, text string) []api.Mark {
	t.Helper()
	c, err := Parse(text)
	if err != api.OK {
		t.Fatalf("Parse(%q): %d", text, err)
	}
	return c
}

// randomClock returns a clock with times up to most.
func randomClock(next func(int) int, most int) []api.Mark {
	n := 2 + next(min(api.MaxMarks-1, most))
	pick := func() []int {
		seen := map[int]bool{}
		var l []int
		for len(l) < n {
			if x := next(most + 1); !seen[x] {
				seen[x] = true
				l = append(l, x)
			}
		}
		slices.Sort(l)
		return l
	}
	local, truth := pick(), pick()
	var c []api.Mark
	for i := range local {
		c = append(c, api.Mark{Local: local[i], True: truth[i]})
	}
	return c
}

// smallClocks returns all clocks with times up to most.
func smallClocks(most int) [][]api.Mark {
	var all [][]api.Mark
	var grow func(c []api.Mark)
	grow = func(c []api.Mark) {
		if len(c) >= 2 {
			all = append(all, slices.Clone(c))
		}
		var last api.Mark
		if len(c) == 0 {
			last = api.Mark{Local: -1, True: -1}
		} else {
			last = c[len(c)-1]
		}
		for local := last.Local + 1; local <= most; local++ {
			for truth := last.True + 1; truth <= most; truth++ {
				grow(append(slices.Clone(c), api.Mark{Local: local, True: truth}))
			}
		}
	}
	grow(nil)
	return all
}

func exact(r api.Ratio) *big.Rat {
	return big.NewRat(int64(r.N), int64(r.D))
}

// isLowest reports whether a ratio is in lowest terms.
func isLowest(r api.Ratio) bool {
	if r.D < 1 {
		return false
	}
	e := exact(r)
	return e.Num().Int64() == int64(r.N) && e.Denom().Int64() == int64(r.D)
}

// exactAt is the time of a clock at a local time by the words of the chapter.
func exactAt(c []api.Mark, local *big.Rat) *big.Rat {
	i := 0
	for i < len(c)-2 && local.Cmp(big.NewRat(int64(c[i+1].Local), 1)) > 0 {
		i++
	}
	a, b := c[i], c[i+1]
	e := big.NewRat(int64(b.True-a.True), int64(b.Local-a.Local))
	e.Mul(e, new(big.Rat).Sub(local, big.NewRat(int64(a.Local), 1)))
	return e.Add(e, big.NewRat(int64(a.True), 1))
}

func at(t *testing.T, c []api.Mark, local int) api.Ratio {
	t.Helper()
	r, err := At(c, local)
	if err != api.OK {
		t.Fatalf("At(%v, %d): %d", c, local, err)
	}
	return r
}

func same(t *testing.T, c, d []api.Mark) bool {
	t.Helper()
	is, err := Same(c, d)
	if err != api.OK {
		t.Fatalf("Same(%v, %v): %d", c, d, err)
	}
	return is
}

func straight(t *testing.T, c []api.Mark) []api.Mark {
	t.Helper()
	d, err := Straight(c)
	if err != api.OK {
		t.Fatalf("Straight(%v): %d", c, err)
	}
	return d
}

func invalidClocks() [][]api.Mark {
	bad := [][]api.Mark{
		nil, {}, marks(0, 0), marks(0, 0, 0, 1), marks(0, 0, 1, 0), marks(1, 0, 0, 1), marks(0, 1, 1, 0),
		marks(0, 0, 1, 1, 1, 2), marks(-1, 0, 1, 1), marks(0, -1, 1, 1), marks(0, 0, 100001, 1), marks(0, 0, 1, 100001),
		longClock(api.MaxMarks + 1),
	}
	for _, n := range extremes {
		bad = append(bad, marks(n, 0, 1, 1), marks(0, n, 1, 1), marks(0, 0, n, 1), marks(0, 0, 1, n))
	}
	return bad
}

func TestValidClock(t *testing.T) {
	for _, c := range [][]api.Mark{
		marks(0, 0, 1, 1), marks(0, 0, 100000, 100000), marks(99999, 99999, 100000, 100000), longClock(2), longClock(api.MaxMarks),
	} {
		if !ValidClock(c) {
			t.Errorf("ValidClock(%v): false", c)
		}
	}
	for _, c := range invalidClocks() {
		if ValidClock(c) {
			t.Errorf("ValidClock(%v): true", c)
		}
	}
}

func TestAtAndBack(t *testing.T) {
	for _, c := range []struct {
		text  string
		local int
		want  api.Ratio
	}{
		{example, 0, ratio(10, 1)},
		{example, 5, ratio(20, 1)},
		{example, 10, ratio(30, 1)},
		{example, 15, ratio(45, 1)},
		{example, 20, ratio(60, 1)},
		{example, 30, ratio(90, 1)},
		{example, 100000, ratio(300000, 1)},
		{"5=0 8=1 9=100", 0, ratio(-5, 3)},
		{"5=0 8=1 9=100", 5, ratio(0, 1)},
		{"5=0 8=1 9=100", 7, ratio(2, 3)},
		{"5=0 8=1 9=100", 8, ratio(1, 1)},
		{"5=0 8=1 9=100", 10, ratio(199, 1)},
		{"0=0 6=4", 3, ratio(2, 1)},
		{"0=0 6=4", 4, ratio(8, 3)},
		{"0=0 1=100000", 100000, ratio(10000000000, 1)},
		{"99999=0 100000=100000", 0, ratio(-9999900000, 1)},
		{"0=99999 99999=100000", 100000, ratio(9999900001, 99999)},
	} {
		r, err := At(clock(t, c.text), c.local)
		if r != c.want || err != api.OK {
			t.Errorf("At(%s, %d): %v, %d", c.text, c.local, r, err)
		}
		back, err := Back(clock(t, c.text), c.want)
		if back != ratio(c.local, 1) || err != api.OK {
			t.Errorf("Back(%s, %v): %v, %d", c.text, c.want, back, err)
		}
	}
	for _, c := range []struct {
		text    string
		t, want api.Ratio
	}{
		{example, ratio(20, 1), ratio(5, 1)},
		{example, ratio(40, 2), ratio(5, 1)},
		{example, ratio(60, 2), ratio(10, 1)},
		{example, ratio(61, 2), ratio(61, 6)},
		{example, ratio(0, 7), ratio(-5, 1)},
		{example, ratio(-1, 2), ratio(-21, 4)},
		{example, ratio(100000000000, 1), ratio(100000000000, 3)},
		{"0=0 100000=1", ratio(100000000000, 1), ratio(10000000000000000, 1)},
		{"0=0 100000=1", ratio(-100000000000, 1), ratio(-10000000000000000, 1)},
		{"0=99999 100000=100000", ratio(-100000000000, 99999), ratio(-10999980000100000, 99999)},
		{"0=0 1=100000", ratio(1, 100000), ratio(1, 10000000000)},
	} {
		if r, err := Back(clock(t, c.text), c.t); r != c.want || err != api.OK {
			t.Errorf("Back(%s, %v): %v, %d, want %v", c.text, c.t, r, err, c.want)
		}
	}
}

// TestTimesByBigNumbers holds At and Back against exact fractions.
func TestTimesByBigNumbers(t *testing.T) {
	next := numbers(2)
	for i := range 3000 {
		c := randomClock(next, []int{6, 60, api.MaxTick}[i%3])
		local := next(api.MaxTick + 1)
		if i%2 == 0 {
			local = next(70)
		}
		r := at(t, c, local)
		if !isLowest(r) || exact(r).Cmp(exactAt(c, big.NewRat(int64(local), 1))) != 0 {
			t.Fatalf("At(%v, %d): %v", c, local, r)
		}
		truth := ratio(next(200000000001)-100000000000, 1+next(100000))
		back, err := Back(c, truth)
		if err != api.OK || !isLowest(back) || exactAt(c, exact(back)).Cmp(exact(truth)) != 0 {
			t.Fatalf("Back(%v, %v): %v, %d", c, truth, back, err)
		}
	}
}

// TestClocksThereAndBack: P1.9.
func TestClocksThereAndBack(t *testing.T) {
	next := numbers(3)
	for i := range 3000 {
		c := randomClock(next, []int{5, 50, api.MaxTick}[i%3])
		inverse, err := Inverse(c)
		if err != api.OK || !ValidClock(inverse) {
			t.Fatalf("Inverse(%v): %v, %d", c, inverse, err)
		}
		again, err := Inverse(inverse)
		if err != api.OK || !slices.Equal(again, c) {
			t.Fatalf("Inverse(%v): %v, %d", inverse, again, err)
		}
		least, greatest, err := Speeds(c)
		if err != api.OK {
			t.Fatalf("Speeds(%v): %d", c, err)
		}
		for _, local := range []int{0, 1, next(60), next(api.MaxTick), c[next(len(c))].Local, api.MaxTick} {
			r := at(t, c, local)
			if back, err := Back(c, r); back != ratio(local, 1) || err != api.OK {
				t.Fatalf("Back(%v, %v): %v, %d, want %d", c, r, back, err, local)
			}
			if back, err := Back(inverse, ratio(local, 1)); back != r || err != api.OK {
				t.Fatalf("Back(%v, %d): %v, %d, want %v", inverse, local, back, err, r)
			}
			if local < api.MaxTick {
				step := new(big.Rat).Sub(exact(at(t, c, local+1)), exact(r))
				if step.Sign() <= 0 || step.Cmp(exact(least)) < 0 || step.Cmp(exact(greatest)) > 0 {
					t.Fatalf("At(%v, %d) grows by %v", c, local, step)
				}
			}
		}
	}
}

func TestTimesErrors(t *testing.T) {
	c := clock(t, example)
	for _, local := range append([]int{api.MaxTick + 1}, extremes...) {
		if r, err := At(c, local); err != api.ErrArg || r != (api.Ratio{}) {
			t.Errorf("At(%d): %v, %d", local, r, err)
		}
		if r, err := Speed(c, local); err != api.ErrArg || r != (api.Ratio{}) {
			t.Errorf("Speed(%d): %v, %d", local, r, err)
		}
	}
	bad := []api.Ratio{{}, ratio(1, 0), ratio(1, -1), ratio(1, 100001), ratio(100000000001, 1), ratio(-100000000001, 1), ratio(100000000001, 100000)}
	for _, n := range extremes {
		bad = append(bad, ratio(1, n))
		if n != -1 {
			bad = append(bad, ratio(n, 1))
		}
	}
	for _, r := range bad {
		if back, err := Back(c, r); err != api.ErrArg || back != (api.Ratio{}) {
			t.Errorf("Back(%v): %v, %d", r, back, err)
		}
	}
	for _, r := range []api.Ratio{ratio(100000000000, 100000), ratio(-100000000000, 100000), ratio(0, 1)} {
		if _, err := Back(c, r); err != api.OK {
			t.Errorf("Back(%v): %d", r, err)
		}
	}
}

func TestSpeed(t *testing.T) {
	for _, c := range []struct {
		text  string
		local int
		want  api.Ratio
	}{
		{example, 0, ratio(2, 1)},
		{example, 9, ratio(2, 1)},
		{example, 10, ratio(3, 1)},
		{example, 20, ratio(3, 1)},
		{example, 100000, ratio(3, 1)},
		{"5=5 10=6 12=10", 0, ratio(1, 5)},
		{"5=5 10=6 12=10", 5, ratio(1, 5)},
		{"5=5 10=6 12=10", 10, ratio(2, 1)},
		{"5=5 10=6 12=10", 12, ratio(2, 1)},
		{"0=0 9=6", 3, ratio(2, 3)},
	} {
		if r, err := Speed(clock(t, c.text), c.local); r != c.want || err != api.OK {
			t.Errorf("Speed(%s, %d): %v, %d", c.text, c.local, r, err)
		}
	}
}

func TestSpeeds(t *testing.T) {
	for _, c := range []struct {
		text            string
		least, greatest api.Ratio
	}{
		{example, ratio(2, 1), ratio(3, 1)},
		{"0=0 4=6", ratio(3, 2), ratio(3, 2)},
		{"0=0 2=3 4=4 5=8", ratio(1, 2), ratio(4, 1)},
		{"0=0 1=9 2=10 9=12 11=14", ratio(2, 7), ratio(9, 1)},
		{"0=0 3=2 5=3 8=5", ratio(1, 2), ratio(2, 3)},
		{"0=0 1=50000 100000=50001", ratio(1, 99999), ratio(50000, 1)},
	} {
		least, greatest, err := Speeds(clock(t, c.text))
		if least != c.least || greatest != c.greatest || err != api.OK {
			t.Errorf("Speeds(%s): %v, %v, %d", c.text, least, greatest, err)
		}
	}
}

func TestStraight(t *testing.T) {
	for text, want := range map[string]string{
		"0=0 1=1":                     "0=0 1=1",
		"0=0 1=1 2=2":                 "0=0 2=2",
		"0=0 1=2 2=4 3=6 4=7 6=9":     "0=0 3=6 6=9",
		example:                       example,
		"0=0 2=4 3=6 7=14":            "0=0 7=14",
		"0=0 2=4 3=7 5=11":            "0=0 2=4 3=7 5=11",
		"1=3 4=5 7=7 8=9 10=13 11=14": "1=3 7=7 10=13 11=14",
	} {
		got, err := Format(straight(t, clock(t, text)))
		if got != want || err != api.OK {
			t.Errorf("Straight(%s): %s, %d", text, got, err)
		}
	}
}

// sameLine reports whether the marks a and b lie on one line with c and d.
func sameLine(a, b, c, d api.Mark) bool {
	on := func(x api.Mark) bool {
		return (x.True-a.True)*(b.Local-a.Local) == (x.Local-a.Local)*(b.True-a.True)
	}
	return on(c) && on(d)
}

// alike is Same by what P1.10 says of Straight.
func alike(c, d []api.Mark) bool {
	n := len(c)
	return n == len(d) && slices.Equal(c[1:n-1], d[1:n-1]) &&
		sameLine(c[0], c[1], d[0], d[1]) && sameLine(c[n-2], c[n-1], d[n-2], d[n-1])
}

// TestSmallClocks: P1.10 and P1.11 for all pairs of small clocks.
func TestSmallClocks(t *testing.T) {
	const most = 4
	all := smallClocks(most)
	if len(all) != 226 { // 10 * 10 of two marks or of three, 5 * 5 of four, 1 of five
		t.Fatalf("%d clocks", len(all))
	}
	far := []int{0, 1, 2, 3, 4, 5, api.MaxTick - 1, api.MaxTick}
	for _, c := range all {
		lean := straight(t, c)
		if !same(t, c, lean) || !slices.Equal(straight(t, lean), lean) {
			t.Fatalf("Straight(%v): %v", c, lean)
		}
		for _, d := range all {
			want := true
			for _, x := range far {
				want = want && at(t, c, x) == at(t, d, x)
			}
			is := same(t, c, d)
			if is != want || is != alike(lean, straight(t, d)) || is != same(t, d, c) {
				t.Fatalf("Same(%v, %v): %v", c, d, is)
			}
			if is && c[0] == d[0] && c[len(c)-1] == d[len(d)-1] && len(d) < len(lean) {
				t.Fatalf("Straight(%v): %v, but %v is shorter", c, lean, d)
			}
			if _, gap, err := Apart(c, d, 0, api.MaxTick); err != api.OK || (gap == ratio(0, 1)) != is {
				t.Fatalf("Apart(%v, %v): %v, %d", c, d, gap, err)
			}
		}
	}
}

func TestSame(t *testing.T) {
	for _, c := range []struct {
		a, b string
		is   bool
	}{
		{"0=0 1=2", "3=6 5=10", true},
		{"0=0 1=2 2=4 3=5", "1=2 2=4 5=7", true},
		{"0=0 1=2", "0=0 1=2 2=5", false},
		{example, example, true},
		{"0=0 1=1", "0=1 1=2", false},
		{"99999=99999 100000=100000", "0=0 1=1", true},
		{"99998=0 99999=1 100000=2", "99998=0 99999=1 100000=3", false},
		{"0=0 1=1 2=3", "1=1 2=3", false},
		{"0=0 1=1 2=3", "1=1 2=3 3=5", false},
	} {
		if is := same(t, clock(t, c.a), clock(t, c.b)); is != c.is {
			t.Errorf("Same(%s, %s): %v", c.a, c.b, is)
		}
	}
}

func TestInverseAndMoved(t *testing.T) {
	c := clock(t, example)
	inverse, err := Inverse(c)
	if !slices.Equal(inverse, marks(10, 0, 30, 10, 60, 20)) || err != api.OK {
		t.Errorf("Inverse: %v, %d", inverse, err)
	}
	for _, by := range []int{0, -10, 5, 99940} {
		moved, err := Moved(c, by)
		if !slices.Equal(moved, marks(0, 10+by, 10, 30+by, 20, 60+by)) || err != api.OK {
			t.Errorf("Moved(%d): %v, %d", by, moved, err)
		}
		back, err := Moved(moved, -by)
		if !slices.Equal(back, c) || err != api.OK {
			t.Errorf("Moved(%d): %v, %d", -by, back, err)
		}
		for _, local := range []int{0, 7, 10, 99, api.MaxTick} {
			if a, b := at(t, c, local), at(t, moved, local); b != ratio(a.N+by*a.D, a.D) {
				t.Errorf("At(%d) of Moved(%d): %v, %v", local, by, a, b)
			}
		}
	}
	for _, by := range []int{-11, 99941, -100000, 100000, math.MinInt, math.MinInt + 20, math.MaxInt - 20, math.MaxInt} {
		if moved, err := Moved(c, by); err != api.ErrArg || moved != nil {
			t.Errorf("Moved(%d): %v, %d", by, moved, err)
		}
	}
}

func TestApart(t *testing.T) {
	for _, c := range []struct {
		a, b         string
		from, to, at int
		most         api.Ratio
	}{
		{example, "0=10 1=12", 0, 10, 0, ratio(0, 1)},
		{example, "0=10 1=12", 0, 11, 11, ratio(1, 1)},
		{example, "0=10 1=12", 0, 100000, 100000, ratio(99990, 1)},
		{example, example, 7, 9, 7, ratio(0, 1)},
		{"0=10 5=20 10=30", "0=10 5=13 10=30 17=37", 0, 10, 5, ratio(7, 1)},
		{"0=10 5=20 10=30", "0=10 5=13 10=30 17=37", 6, 10, 6, ratio(28, 5)},
		{"0=5 1=6", "0=0 1=1", 3, 100000, 3, ratio(5, 1)},                    // equally far everywhere
		{"0=0 10=10", "0=2 10=8", 0, 10, 0, ratio(2, 1)},                     // as far at both ends, and above and below
		{"0=0 4=8 8=12 12=20", "0=0 12=24", 0, 12, 8, ratio(4, 1)},           // as far from 8 on
		{"0=10 2=20 4=21 6=31", "0=10 2=11 4=21 6=22", 0, 5, 2, ratio(9, 1)}, // as far at a mark and behind it
		{"3=0 6=1", "0=9 100000=99999", 0, 0, 0, ratio(10, 1)},
		{"0=0 1=100000", "99999=0 100000=100000", 0, 100000, 0, ratio(9999900000, 1)},
	} {
		a, b := clock(t, c.a), clock(t, c.b)
		for _, pair := range [][2][]api.Mark{{a, b}, {b, a}} {
			at, most, err := Apart(pair[0], pair[1], c.from, c.to)
			if at != c.at || most != c.most || err != api.OK {
				t.Errorf("Apart(%s, %s, %d, %d): %d, %v, %d", c.a, c.b, c.from, c.to, at, most, err)
			}
		}
	}
}

// TestApartLooksEverywhere: P1.11, held against all local times one by one.
func TestApartLooksEverywhere(t *testing.T) {
	next := numbers(4)
	for i := range 600 {
		most := []int{5, 40, api.MaxTick}[i%3]
		c, d := randomClock(next, most), randomClock(next, most)
		from := next(most)
		if i%2 == 0 {
			from = c[next(len(c))].Local
		}
		to := min(from+next(80), api.MaxTick)
		wantAt, want := from, new(big.Rat)
		for x := from; x <= to; x++ {
			local := big.NewRat(int64(x), 1)
			gap := new(big.Rat).Sub(exactAt(c, local), exactAt(d, local))
			if gap.Abs(gap).Cmp(want) > 0 {
				wantAt, want = x, gap
			}
		}
		at, gap, err := Apart(c, d, from, to)
		if err != api.OK || at != wantAt || !isLowest(gap) || exact(gap).Cmp(want) != 0 {
			t.Fatalf("Apart(%v, %v, %d, %d): %d, %v, %d, want %d, %v", c, d, from, to, at, gap, err, wantAt, want)
		}
		again, other, err := Apart(d, c, from, to)
		if again != at || other != gap || err != api.OK {
			t.Fatalf("Apart(%v, %v, %d, %d): %d, %v, %d", d, c, from, to, again, other, err)
		}
	}
}

// TestApartOfWideMarks: the differences at marks that are far from each other,
// of which the cross products have more than 64 bits.
func TestApartOfWideMarks(t *testing.T) {
	next := numbers(5)
	for range 600 {
		c, d := randomClock(next, api.MaxTick), randomClock(next, api.MaxTick)
		want := new(big.Rat)
		for _, x := range append(slices.Concat(c, d), marks(0, 0, api.MaxTick, 0)...) {
			local := big.NewRat(int64(x.Local), 1)
			gap := new(big.Rat).Sub(exactAt(c, local), exactAt(d, local))
			if gap.Abs(gap).Cmp(want) > 0 {
				want = gap
			}
		}
		at, gap, err := Apart(c, d, 0, api.MaxTick)
		if err != api.OK || !isLowest(gap) || exact(gap).Cmp(want) != 0 {
			t.Fatalf("Apart(%v, %v): %d, %v, %d, want %v", c, d, at, gap, err, want)
		}
	}
}

func TestApartErrors(t *testing.T) {
	c := clock(t, example)
	for _, x := range [][2]int{{1, 0}, {-1, 0}, {0, 100001}, {100001, 100001}, {-1, -1}, {math.MinInt, math.MaxInt}, {math.MaxInt, math.MinInt}} {
		if at, gap, err := Apart(c, c, x[0], x[1]); err != api.ErrArg || at != 0 || gap != (api.Ratio{}) {
			t.Errorf("Apart(%v): %d, %v, %d", x, at, gap, err)
		}
	}
}

// TestClockErrors: P1.1, a clock that is none comes before all other errors.
func TestClockErrors(t *testing.T) {
	good := clock(t, example)
	zero := api.Ratio{}
	for _, bad := range invalidClocks() {
		for name, call := range map[string]func() (bool, api.Errno){
			"At":       func() (bool, api.Errno) { r, err := At(bad, -1); return r == zero, err },
			"Back":     func() (bool, api.Errno) { r, err := Back(bad, zero); return r == zero, err },
			"Speed":    func() (bool, api.Errno) { r, err := Speed(bad, -1); return r == zero, err },
			"Speeds":   func() (bool, api.Errno) { a, b, err := Speeds(bad); return a == zero && b == zero, err },
			"Straight": func() (bool, api.Errno) { l, err := Straight(bad); return l == nil, err },
			"Inverse":  func() (bool, api.Errno) { l, err := Inverse(bad); return l == nil, err },
			"Moved":    func() (bool, api.Errno) { l, err := Moved(bad, math.MaxInt); return l == nil, err },
			"Apart": func() (bool, api.Errno) {
				x, r, err := Apart(bad, good, 1, 0)
				return x == 0 && r == zero, err
			},
			"Apart, second": func() (bool, api.Errno) {
				x, r, err := Apart(good, bad, 1, 0)
				return x == 0 && r == zero, err
			},
			"Same":         func() (bool, api.Errno) { is, err := Same(bad, good); return !is, err },
			"Same, second": func() (bool, api.Errno) { is, err := Same(good, bad); return !is, err },
			"Same, both":   func() (bool, api.Errno) { is, err := Same(bad, bad); return !is, err },
			"Format":       func() (bool, api.Errno) { text, err := Format(bad); return text == "", err },
		} {
			if isZero, err := call(); err != api.ErrClock || !isZero {
				t.Errorf("%s of %v: %d, zero: %v", name, bad, err, isZero)
			}
		}
	}
}

// TestClocksKeepArguments: R4.
func TestClocksKeepArguments(t *testing.T) {
	original := marks(0, 10, 10, 30, 20, 50, 30, 60, 7, 7)
	room := slices.Clone(original)
	c := room[:4]
	for name, call := range map[string]func() ([]api.Mark, api.Errno){
		"Straight":        func() ([]api.Mark, api.Errno) { return Straight(c) },
		"Straight of two": func() ([]api.Mark, api.Errno) { return Straight(c[:2]) },
		"Inverse":         func() ([]api.Mark, api.Errno) { return Inverse(c) },
		"Moved":           func() ([]api.Mark, api.Errno) { return Moved(c, 0) },
		"Apart":           func() ([]api.Mark, api.Errno) { _, _, err := Apart(c, c[:2], 0, 40); return nil, err },
		"Same":            func() ([]api.Mark, api.Errno) { _, err := Same(c[:2], c); return nil, err },
	} {
		l, err := call()
		if err != api.OK {
			t.Errorf("%s: %d", name, err)
		}
		for i := range l {
			l[i] = api.Mark{Local: -1, True: -1}
		}
		_ = append(l, api.Mark{})
		if !slices.Equal(room, original) {
			t.Fatalf("%s changed its argument: %v", name, room)
		}
	}
}
