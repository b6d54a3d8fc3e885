package wave

import (
	"math"
	"slices"
	"strings"
	"testing"

	"firn/api"
)

// TestEncodeByHand: P3.4, P3.6 and the chapter's examples.
func TestEncodeByHand(t *testing.T) {
	for _, c := range []struct {
		s     []int
		text  string
		bound int
	}{
		{[]int{2, 2, 2, 2}, "010000000000", 6},
		{[]int{100}, "1001" + "1000001" + "00001100100", 11},
		{[]int{0}, "000", 1},
		{[]int{3}, "011", 3},
		{[]int{4}, "1001" + "000100", 6},
		{[]int{31}, "1001" + "011111", 6},
		{[]int{32}, "1001" + "1000001" + "00000100000", 11},
		{[]int{1023, 0}, "1001" + "1000001" + "01111111111" + "10000000001", 22},
		{[]int{3, 0, 31, 0}, "011" + "101" + "1001" + "011111" + "100001", 18},
		{flat(3, 0), "000000000", 3},
		{flat(4, 0), "1000" + "100" + "0000", 4},
		// Texts of as many bits come behind these: `100000000001`, and the second one
		// with a change to 1 bit.
		{[]int{0, 0, 0, 1}, "000000000001", 5},
		{[]int{1, 2, 2, 2, 2}, "1000" + "01" + "01" + "00" + "00" + "00", 7},
		{flat(api.MaxWave, 0), "1000" + "100" + strings.Repeat("0", api.MaxWave), api.MaxWave},
	} {
		if text, err := Encode(c.s); text != c.text || err != api.OK {
			t.Errorf("Encode(%v): %q, %d, want %q", c.s, text, err, c.text)
		}
		if n, err := Length(c.s); n != len(c.text) || err != api.OK {
			t.Errorf("Length(%v): %d, %d", c.s, n, err)
		}
		if n, err := Bound(c.s); n != c.bound || err != api.OK {
			t.Errorf("Bound(%v): %d, %d, want %d", c.s, n, err, c.bound)
		}
	}
}

// spot is where a text of a wave form can be: so many differences are written,
// and the next word has this step.
type spot struct {
	written, step int
}

// shortest finds the text of a wave form with the fewest bits, of several the one
// that comes first, among all texts, from the shortest ones on: also those that go
// up and down for nothing.
func shortest(s []int) string {
	reached := []map[spot]string{{{0, 2}: ""}}
	reach := func(to spot, text string) {
		for len(text) >= len(reached) {
			reached = append(reached, map[spot]string{})
		}
		if old, is := reached[len(text)][to]; !is || text < old {
			reached[len(text)][to] = text
		}
	}
	for bits := 0; ; bits++ {
		// Words are of one bit or more, so that what is reached with as many bits stands.
		for at, text := range reached[bits] {
			w := testWidths[at.step]
			if at.written > 0 && at.written == len(s) {
				continue
			}
			d := s[at.written]
			if at.written > 0 {
				d -= s[at.written-1]
			}
			if most := 1<<(w-1) - 1; -most <= d && d <= most {
				word, _ := Word(w, d)
				reach(spot{at.written + 1, at.step}, text+word)
			}
			sign := "1" + strings.Repeat("0", w-1)
			if at.step < len(testWidths)-1 {
				reach(spot{at.written, at.step + 1}, text+sign+"1")
			}
			if at.step > 0 {
				reach(spot{at.written, at.step - 1}, text+sign+"0")
			}
		}
		best := ""
		for at, text := range reached[bits] {
			// A text ends with a word: what has changed behind the last one is not looked at.
			if at.written == len(s) && (best == "" || text < best) {
				best = text
			}
		}
		if best != "" {
			return best
		}
	}
}

// TestEncodeIsShortest: P3.4, P3.8 and P3.9, against all texts.
func TestEncodeIsShortest(t *testing.T) {
	manyWaves(5, 400, func(s []int, next func(int) int) {
		text, err := Encode(s)
		if want := shortest(s); text != want || err != api.OK {
			t.Fatalf("Encode(%v): %q, %d, want %q", s, text, err, want)
		}
		if n, err := Length(s); n != len(text) || err != api.OK {
			t.Fatalf("Length(%v): %d, %d", s, n, err)
		}
		if back, err := Decode(text); !slices.Equal(back, s) || err != api.OK {
			t.Fatalf("Decode(%q): %v, %d, want %v", text, back, err, s)
		}
		if is, err := IsText(s, text); !is || err != api.OK {
			t.Fatalf("IsText(%v, %q): %v, %d", s, text, is, err)
		}
		widths := sure[[]int](t, "Widths")(Widths(text))
		if plan, err := Plan(s, widths); plan != text || err != api.OK {
			t.Fatalf("Plan(%v, %v): %q, %d, want %q", s, widths, plan, err, text)
		}
	})
}

// leastWidth returns the least width that a difference can have.
func leastWidth(d int) int {
	switch d = max(d, -d); {
	case d == 0:
		return 1
	case d == 1:
		return 2
	case d <= 3:
		return 3
	case d <= 31:
		return 6
	}
	return 11
}

// TestBound: P3.6 and P3.9.
func TestBound(t *testing.T) {
	manyWaves(6, 2000, func(s []int, next func(int) int) {
		sum := 0
		for _, d := range sure[[]int](t, "Differences")(Differences(s)) {
			sum += leastWidth(d)
		}
		bound, err := Bound(s)
		if bound != sum || err != api.OK {
			t.Fatalf("Bound(%v): %d, %d, want %d", s, bound, err, sum)
		}
		if n := sure[int](t, "Length")(Length(s)); n < bound {
			t.Fatalf("Length(%v): %d, below %d", s, n, bound)
		}
	})
}

// TestWide: P3.5, P3.8 and P3.9.
func TestWide(t *testing.T) {
	if text, err := Wide([]int{1, 0}); text != "1001"+"1000001"+"00000000001"+"11111111111" || err != api.OK {
		t.Errorf("Wide: %q, %d", text, err)
	}
	manyWaves(7, 1000, func(s []int, next func(int) int) {
		text, err := Wide(s)
		if err != api.OK || len(text) != 11+11*len(s) {
			t.Fatalf("Wide(%v): %q, %d", s, text, err)
		}
		got, is := checkText(t, text)
		if !is || !slices.Equal(got.samples, s) || !slices.Equal(got.widths, flat(len(s), 11)) || got.changes != 2 {
			t.Fatalf("Wide(%v): %q, %v", s, text, got)
		}
		if n := sure[int](t, "Length")(Length(s)); n > len(text) {
			t.Fatalf("Length(%v): %d", s, n)
		}
	})
}

// TestPlanByHand: P3.5.
func TestPlanByHand(t *testing.T) {
	for _, c := range []struct {
		s, widths []int
		text      string
	}{
		{[]int{1}, []int{3}, "001"},
		{[]int{1}, []int{2}, "1000" + "01"},
		{[]int{0}, []int{1}, "1000" + "100" + "0"},
		{[]int{0, 1023}, []int{1, 11}, "1000" + "100" + "0" + "11" + "101" + "1001" + "1000001" + "01111111111"},
		{[]int{1023, 1023}, []int{11, 1}, "1001" + "1000001" + "01111111111" + "100000000000" + "1000000" + "1000" + "100" + "0"},
	} {
		if text, err := Plan(c.s, c.widths); text != c.text || err != api.OK {
			t.Errorf("Plan(%v, %v): %q, %d, want %q", c.s, c.widths, text, err, c.text)
		}
	}
}

// TestPlans: P3.5, P3.8 and P3.9, plans at random.
func TestPlans(t *testing.T) {
	limits := 0
	manyWaves(8, 3000, func(s []int, next func(int) int) {
		var widths []int
		changes, step := 0, 2
		for _, d := range sure[[]int](t, "Differences")(Differences(s)) {
			to := next(5)
			if next(3) > 0 {
				to = step
			}
			for testWidths[to] < leastWidth(d) {
				to++
			}
			changes += max(to-step, step-to)
			step = to
			widths = append(widths, testWidths[to])
		}
		text, err := Plan(s, widths)
		if err == api.ErrLimit && text == "" {
			limits++
			return
		}
		got, is := checkText(t, text)
		if err != api.OK || !is || !slices.Equal(got.samples, s) || !slices.Equal(got.widths, widths) || got.changes != changes {
			t.Fatalf("Plan(%v, %v): %q, %d, %v", s, widths, text, err, got)
		}
		if n := sure[int](t, "Length")(Length(s)); n > len(text) {
			t.Fatalf("Length(%v): %d, of the plan by %v %d", s, n, widths, len(text))
		}
	})
	if limits > 100 {
		t.Errorf("%d plans are too long", limits)
	}
}

// TestAllPlans: P3.9, Encode is the best one of all plans of short wave forms.
func TestAllPlans(t *testing.T) {
	next := numbers(9)
	for i := range 300 {
		s := randomWave(next, 4, []int{1, 4, 40}[i%3])
		best := ""
		var grow func(widths []int)
		grow = func(widths []int) {
			if len(widths) < len(s) {
				for _, w := range testWidths {
					grow(append(slices.Clone(widths), w))
				}
				return
			}
			text, err := Plan(s, widths)
			if err == api.OK && (best == "" || len(text) < len(best) || len(text) == len(best) && text < best) {
				best = text
			}
		}
		grow(nil)
		if text, err := Encode(s); text != best || err != api.OK {
			t.Fatalf("Encode(%v): %q, %d, want %q", s, text, err, best)
		}
	}
}

// upAndDown returns widths of n differences that are by turns 1 and 11.
func upAndDown(n int) []int {
	widths := flat(n, 1)
	for i := 1; i < n; i += 2 {
		widths[i] = 11
	}
	return widths
}

// TestPlanLimit: P3.5, a text of MaxText bits is taken, a longer one is not.
func TestPlanLimit(t *testing.T) {
	// 8 bits for the first word of 1 bit with its changes, 27 for each one of 11 bits, 27 for the others.
	if text, err := Plan(flat(37, 0), upAndDown(37)); len(text) != 8+36*27 || err != api.OK {
		t.Errorf("Plan of 37: %d bits, %d", len(text), err)
	}
	for n := 38; n <= api.MaxWave; n++ {
		if text, err := Plan(flat(n, 0), upAndDown(n)); text != "" || err != api.ErrLimit {
			t.Errorf("Plan of %d: %d bits, %d", n, len(text), err)
		}
	}
}

// extraBits returns how many bits words behind one of the width 1 have, with their changes.
func extraBits(widths []int) int {
	bits, step := 0, 0
	for _, w := range widths {
		to := slices.Index(testWidths, w)
		for i := min(step, to) + 1; i <= max(step, to); i++ {
			if to > step {
				bits += testWidths[i-1] + 1
			} else {
				bits += testWidths[i] + 1
			}
		}
		bits += w
		step = to
	}
	return bits
}

// TestPlanExactLimit: P3.5, just MaxText bits, and 1 more.
func TestPlanExactLimit(t *testing.T) {
	found := map[int]bool{}
	for _, a := range testWidths {
		for _, b := range testWidths {
			for _, c := range testWidths {
				more := []int{a, b, c}
				want := 980 + extraBits(more)
				text, err := Plan(flat(40, 0), append(upAndDown(37), more...))
				if want <= api.MaxText && (len(text) != want || err != api.OK) || want > api.MaxText && (text != "" || err != api.ErrLimit) {
					t.Errorf("Plan with %v: %d bits, %d, want %d", more, len(text), err, want)
				}
				found[want] = true
			}
		}
	}
	if !found[api.MaxText] || !found[api.MaxText+1] {
		t.Errorf("no plan of just MaxText bits, or of 1 more: %v", found)
	}
}

// TestPlanErrors: P3.5, in the order in which the chapter names them.
func TestPlanErrors(t *testing.T) {
	long := upAndDown(api.MaxWave)
	none := slices.Clone(long)
	none[39] = 12
	narrow := flat(api.MaxWave, 0)
	narrow[39] = 1023
	narrowWidths := slices.Clone(long)
	narrowWidths[39] = 1
	for _, c := range []struct {
		s, widths []int
		err       api.Errno
	}{
		{[]int{0}, nil, api.ErrArg},
		{[]int{0}, []int{}, api.ErrArg},
		{[]int{0}, []int{3, 3}, api.ErrArg},
		{[]int{0, 0}, []int{3}, api.ErrArg},
		{[]int{0}, []int{0}, api.ErrArg},
		{[]int{0}, []int{4}, api.ErrArg},
		{[]int{0}, []int{12}, api.ErrArg},
		{[]int{0}, []int{-1}, api.ErrArg},
		{[]int{0}, []int{math.MinInt}, api.ErrArg},
		{[]int{0}, []int{math.MaxInt}, api.ErrArg},
		{[]int{0}, make([]int, 1000), api.ErrArg},
		{[]int{5, 5}, []int{1, 4}, api.ErrArg},
		{[]int{5, 5}, []int{1}, api.ErrArg},
		{[]int{5, 5}, []int{1, 1, 1}, api.ErrArg},
		{[]int{1}, []int{1}, api.ErrNone},
		{[]int{1, 0}, []int{2, 1}, api.ErrNone},
		{[]int{2}, []int{2}, api.ErrNone},
		{[]int{2, 0}, []int{3, 2}, api.ErrNone},
		{[]int{4}, []int{3}, api.ErrNone},
		{[]int{4, 0}, []int{6, 3}, api.ErrNone},
		{[]int{32}, []int{6}, api.ErrNone},
		{[]int{32, 0}, []int{11, 6}, api.ErrNone},
		{[]int{0, 1023}, []int{3, 6}, api.ErrNone},
		{flat(api.MaxWave, 0), long, api.ErrLimit},
		{flat(api.MaxWave, 0), none, api.ErrArg},
		{narrow, narrowWidths, api.ErrNone},
	} {
		if text, err := Plan(c.s, c.widths); text != "" || err != c.err {
			t.Errorf("Plan(%v, %v): %q, %d, want %d", c.s, c.widths, text, err, c.err)
		}
	}
	for _, c := range [][2][]int{{{1, 0}, {2, 2}}, {{3, 0}, {3, 3}}, {{31, 0}, {6, 6}}, {{1023, 0}, {11, 11}}} {
		if _, err := Plan(c[0], c[1]); err != api.OK {
			t.Errorf("Plan(%v, %v): %d", c[0], c[1], err)
		}
	}
}
