package wave

import (
	"math"
	"math/rand"
	"slices"
	"strings"
	"testing"

	"firn/api"
)

// The numbers that no call may stumble over.
var extremes = []int{math.MinInt, math.MinInt + 1, -1, math.MaxInt - 1, math.MaxInt}

// numbers returns a function that returns always the same numbers below others.
func numbers(seed int64) func(int) int {
	return rand.New(rand.NewSource(seed)).Intn
}

// flat returns the wave form of n equal samples.
func flat(n, sample int) []int {
	return slices.Repeat([]int{sample}, n)
}

// jumps returns the wave form of n samples that go up and down as far as can be.
func jumps(n int) []int {
	s := flat(n, 0)
	for i := range s {
		s[i] = i % 2 * api.MaxSample
	}
	return s
}

// randomWave returns a wave form of up to most samples, neighbours of which differ
// mostly by up to wide.
func randomWave(next func(int) int, most, wide int) []int {
	s := []int{next(api.MaxSample + 1)}
	if next(2) == 0 {
		s[0] = next(min(wide, api.MaxSample) + 1)
	}
	for n := 1 + next(most); len(s) < n; {
		by := next(2*wide+1) - wide
		if next(8) == 0 {
			by = next(2*api.MaxSample+1) - api.MaxSample
		}
		if next(3) == 0 {
			by = 0
		}
		s = append(s, min(max(s[len(s)-1]+by, 0), api.MaxSample))
	}
	return s
}

// manyWaves calls look with many wave forms, among them some of all lengths and
// some with the differences at the edges of the widths.
func manyWaves(seed int64, times int, look func(s []int, next func(int) int)) {
	next := numbers(seed)
	for i := range times {
		look(randomWave(next, api.MaxWave, []int{1, 2, 4, 10, 40, api.MaxSample}[i%6]), next)
	}
	for n := 1; n <= api.MaxWave; n++ {
		look(flat(n, 0), next)
		look(flat(n, api.MaxSample), next)
		look(jumps(n), next)
	}
	for _, d := range []int{0, 1, 2, 3, 4, 31, 32, 1023} {
		look([]int{d}, next)
		look([]int{0, d, 0}, next)
		look([]int{1023, 1023 - d, 1023}, next)
	}
}

func invalidWaves() [][]int {
	bad := [][]int{
		nil, {}, flat(api.MaxWave+1, 0), make([]int, 1000), {-1}, {1024}, {0, 0, -1}, {1023, 1024}, {0, 5000, 0},
	}
	for _, n := range extremes {
		bad = append(bad, []int{n}, []int{0, n}, []int{n, 0, n})
	}
	return bad
}

// sure returns a function that returns its first argument and fails a test if
// there is an error.
func sure[T any](t *testing.T, what string) func(T, api.Errno) T {
	t.Helper()
	return func(x T, err api.Errno) T {
		t.Helper()
		if err != api.OK {
			t.Fatalf("%s: error %d", what, err)
		}
		return x
	}
}

// TestValid: P3.2.
func TestValid(t *testing.T) {
	for _, s := range [][]int{{0}, {1023}, {0, 1023, 0}, flat(api.MaxWave, 5), jumps(api.MaxWave)} {
		if !Valid(s) {
			t.Errorf("Valid(%v): false", s)
		}
	}
	for _, s := range invalidWaves() {
		if Valid(s) {
			t.Errorf("Valid(%v): true", s)
		}
	}
	// Only the length of a list says how many samples there are.
	if long := flat(60, 1); !Valid(long[:3]) || Valid(long[:0]) {
		t.Errorf("Valid of a part of a list")
	}
}

// TestDifferences: P3.2 and P3.8.
func TestDifferences(t *testing.T) {
	for _, c := range [][2][]int{
		{{2, 2, 2, 2}, {2, 0, 0, 0}},
		{{100}, {100}},
		{{0}, {0}},
		{{0, 1023, 0}, {0, 1023, -1023}},
		{{1023, 0, 1}, {1023, -1023, 1}},
		{{5, 3, 4, 4}, {5, -2, 1, 0}},
	} {
		if d, err := Differences(c[0]); !slices.Equal(d, c[1]) || err != api.OK {
			t.Errorf("Differences(%v): %v, %d", c[0], d, err)
		}
		if s, err := Samples(c[1]); !slices.Equal(s, c[0]) || err != api.OK {
			t.Errorf("Samples(%v): %v, %d", c[1], s, err)
		}
	}
	manyWaves(1, 2000, func(s []int, next func(int) int) {
		d, err := Differences(s)
		if err != api.OK || len(d) != len(s) || d[0] != s[0] {
			t.Fatalf("Differences(%v): %v, %d", s, d, err)
		}
		for i := range s[1:] {
			if d[i+1] != s[i+1]-s[i] {
				t.Fatalf("Differences(%v): %v", s, d)
			}
		}
		if back, err := Samples(d); !slices.Equal(back, s) || err != api.OK {
			t.Fatalf("Samples(%v): %v, %d", d, back, err)
		}
	})
}

// TestSamplesNone: P3.2, differences of which there is no wave form.
func TestSamplesNone(t *testing.T) {
	bad := [][]int{
		nil, {}, {-1}, {1024}, {0, -1}, {1023, 1}, {5, -6}, {0, 1024}, {1000, -1000, 1000, 24}, {1000, 24, -24}, flat(api.MaxWave+1, 0), make([]int, 1000),
		// Sums that would go round to a sample.
		{math.MaxInt, math.MinInt, 1}, {1, math.MaxInt, math.MaxInt, 2}, {2, math.MinInt, math.MinInt}, {1023, math.MaxInt, math.MinInt + 1},
	}
	for _, n := range extremes {
		bad = append(bad, []int{n}, []int{0, n}, []int{1023, -1023, n, n})
	}
	for _, d := range bad {
		if s, err := Samples(d); s != nil || err != api.ErrNone {
			t.Errorf("Samples(%v): %v, %d", d, s, err)
		}
	}
	if s, err := Samples(make([]int, api.MaxWave)); !slices.Equal(s, flat(api.MaxWave, 0)) || err != api.OK {
		t.Errorf("Samples: %v, %d", s, err)
	}
}

// TestQuiet: P3.6 and P3.11.
func TestQuiet(t *testing.T) {
	for _, c := range []struct {
		s    []int
		most int
		want []int
	}{
		{[]int{5, 6, 7, 8}, 0, []int{5, 6, 7, 8}},
		// The sample in front is looked at as it is then: 5, not 6 or 7.
		{[]int{5, 6, 7, 8}, 1, []int{5, 5, 7, 7}},
		{[]int{5, 6, 7, 8}, 2, []int{5, 5, 5, 8}},
		{[]int{8, 7, 6, 5}, 2, []int{8, 8, 8, 5}},
		{[]int{8, 9, 7, 10, 6}, 1, []int{8, 8, 8, 10, 6}},
		{[]int{7}, 1023, []int{7}},
		{[]int{0, 1023, 0}, 1022, []int{0, 1023, 0}},
		{[]int{0, 1023, 0}, 1023, []int{0, 0, 0}},
		{[]int{1023, 0}, 1022, []int{1023, 0}},
	} {
		if q, err := Quiet(c.s, c.most); !slices.Equal(q, c.want) || err != api.OK {
			t.Errorf("Quiet(%v, %d): %v, %d, want %v", c.s, c.most, q, err, c.want)
		}
	}
	manyWaves(2, 2000, func(s []int, next func(int) int) {
		if q, err := Quiet(s, 0); !slices.Equal(q, s) || err != api.OK {
			t.Fatalf("Quiet(%v, 0): %v, %d", s, q, err)
		}
		most := next([]int{3, 20, api.MaxSample + 1}[next(3)])
		want := slices.Clone(s)
		for i := 1; i < len(want); i++ {
			if d := want[i] - want[i-1]; -most <= d && d <= most {
				want[i] = want[i-1]
			}
		}
		q, err := Quiet(s, most)
		if !slices.Equal(q, want) || err != api.OK {
			t.Fatalf("Quiet(%v, %d): %v, %d, want %v", s, most, q, err, want)
		}
		if twice, err := Quiet(q, most); !slices.Equal(twice, q) || err != api.OK {
			t.Fatalf("Quiet(%v, %d): %v, %d", q, most, twice, err)
		}
	})
	for _, most := range append([]int{1024, -2}, extremes...) {
		if q, err := Quiet([]int{1, 2}, most); q != nil || err != api.ErrArg {
			t.Errorf("Quiet by %d: %v, %d", most, q, err)
		}
	}
}

// TestErrorsOfWaves: P3.1, ErrWave is in front of all others.
func TestErrorsOfWaves(t *testing.T) {
	for _, s := range invalidWaves() {
		differences, a := Differences(s)
		text, b := Encode(s)
		length, c := Length(s)
		is, d := IsText(s, "2")
		wide, e := Wide(s)
		plan, f := Plan(s, []int{4})
		other, g := Plan(s, flat(len(s), 11))
		bound, h := Bound(s)
		quiet, i := Quiet(s, -1)
		if differences != nil || text != "" || length != 0 || is || wide != "" || plan != "" || other != "" || bound != 0 || quiet != nil {
			t.Errorf("results for %v", s)
		}
		if errs := []api.Errno{a, b, c, d, e, f, g, h, i}; !slices.Equal(errs, slices.Repeat([]api.Errno{api.ErrWave}, 9)) {
			t.Errorf("errors for %v: %v", s, errs)
		}
	}
}

// TestMemory: rule R4, arguments stay and results are new memory.
func TestMemory(t *testing.T) {
	s := []int{5, 6, 9, 9}
	d := []int{5, 1, 3, 0}
	widths := []int{6, 6, 6, 6}
	b := sure[[]byte](t, "Pack")(Pack("0110"))
	for _, f := range []func() ([]int, api.Errno){
		func() ([]int, api.Errno) { return Differences(s) },
		func() ([]int, api.Errno) { return Samples(d) },
		func() ([]int, api.Errno) { return Quiet(s, 0) },
		func() ([]int, api.Errno) { return Quiet(s, 2) },
		func() ([]int, api.Errno) { return Decode("1001000101") },
		func() ([]int, api.Errno) { return Widths("1001000101") },
	} {
		once := sure[[]int](t, "call")(f())
		kept := slices.Clone(once)
		for i := range once {
			once[i] = -77
		}
		if again := sure[[]int](t, "call")(f()); !slices.Equal(again, kept) {
			t.Errorf("%v, then %v", kept, again)
		}
	}
	sure[string](t, "Plan")(Plan(s, widths))
	sure[string](t, "Unpack")(Unpack(b))
	if !slices.Equal(s, []int{5, 6, 9, 9}) || !slices.Equal(d, []int{5, 1, 3, 0}) || !slices.Equal(widths, []int{6, 6, 6, 6}) || !slices.Equal(b, []byte{0, 4, 0x60}) {
		t.Errorf("changed: %v, %v, %v, %v", s, d, widths, b)
	}
}

// badBits are texts that are none of bits.
func badBits() []string {
	return []string{"2", " ", "0 1", "01\n", "00002", "\x00", "\xff1", "０１", "0" + strings.Repeat("1", api.MaxText), strings.Repeat("0", 5000)}
}
