package cone

import (
	"testing"

	"firn/api"
)

func TestMostAndTrigger(t *testing.T) {
	h := hits(0, 7, 0, -3, 5, 7, 9, 0, 1, 3, 2, 9)
	for _, c := range []struct {
		w, most, time int
	}{
		{0, 2, 7}, {1, 2, 7}, {2, 3, 7}, {3, 3, 7}, {4, 3, 3}, {5, 3, 3}, {6, 4, 3}, {7, 4, 0}, {9, 5, 0}, {10, 5, -3}, {11, 5, -3}, {12, 6, -3}, {2000, 6, -3},
	} {
		if n, time, err := Most(h, c.w); n != c.most || time != c.time || err != api.OK {
			t.Errorf("Most within %d: %d, %d, %d, want %d, %d", c.w, n, time, err, c.most, c.time)
		}
	}
	for _, c := range []struct {
		n, w, time int
		err        api.Errno
	}{
		{1, 0, -3, api.OK}, {2, 0, 7, api.OK}, {3, 0, 0, api.ErrNone}, {2, 2, 7, api.OK}, {2, 3, -3, api.OK}, {3, 6, -3, api.OK},
		{4, 6, 3, api.OK}, {5, 6, 0, api.ErrNone}, {6, 12, -3, api.OK}, {7, 12, 0, api.ErrNone}, {14, 2000, 0, api.ErrNone},
	} {
		if time, err := Trigger(h, c.n, c.w); time != c.time || err != c.err {
			t.Errorf("Trigger of %d within %d: %d, %d", c.n, c.w, time, err)
		}
	}
	// Between both ends of the range lie just as many as are allowed.
	ends := hits(0, -1000, 0, 1000)
	if n, time, err := Most(ends, 2000); n != 2 || time != -1000 || err != api.OK {
		t.Errorf("Most: %d, %d, %d", n, time, err)
	}
	if n, time, err := Most(ends, 1999); n != 1 || time != -1000 || err != api.OK {
		t.Errorf("Most: %d, %d, %d", n, time, err)
	}
	if time, err := Trigger(strangers(api.MaxHits), api.MaxHits, 0); time != 0 || err != api.OK {
		t.Errorf("Trigger: %d, %d", time, err)
	}
}

// TestWithinErrors: P2.6, what is out of range comes before that there is none.
func TestWithinErrors(t *testing.T) {
	h := example()
	for _, w := range append([]int{-1, 2001, 4000}, extremes...) {
		if n, time, err := Most(h, w); n != 0 || time != 0 || err != api.ErrArg {
			t.Errorf("Most within %d: %d, %d, %d", w, n, time, err)
		}
		for _, n := range []int{1, 2, 14} {
			if time, err := Trigger(h, n, w); time != 0 || err != api.ErrArg {
				t.Errorf("Trigger of %d within %d: %d, %d", n, w, time, err)
			}
		}
	}
	for _, n := range append([]int{0, 15, 1000}, extremes...) {
		for _, w := range []int{0, 2000, -1} {
			if time, err := Trigger(h, n, w); time != 0 || err != api.ErrArg {
				t.Errorf("Trigger of %d within %d: %d, %d", n, w, time, err)
			}
		}
	}
	for _, w := range []int{0, 2000} {
		if _, _, err := Most(h, w); err != api.OK {
			t.Errorf("Most within %d: %d", w, err)
		}
		if time, err := Trigger(h, 14, w); time != 0 || err != api.ErrNone {
			t.Errorf("Trigger of 14 within %d: %d, %d", w, time, err)
		}
	}
}

// count returns how many hits have times from one on, for w.
func count(h []api.Hit, from, w int) int {
	n := 0
	for _, hit := range h {
		if hit.Time >= from && hit.Time-from <= w {
			n++
		}
	}
	return n
}

// TestWithinByAllTimes: P2.6 and P2.11, against all times, of hits or not.
func TestWithinByAllTimes(t *testing.T) {
	manyHits(20, 400, api.MaxHits, func(h []api.Hit, next func(int) int) {
		times := map[int]bool{}
		for _, hit := range h {
			times[hit.Time] = true
		}
		last := 0
		for _, w := range []int{0, 1, 2, 3, 5, 8, 20 + next(100), 200 + next(1800), 2000} {
			most := 0
			least := map[int]int{}
			for from := -3 * api.MaxPlace; from <= api.MaxPlace; from++ {
				n := count(h, from, w)
				most = max(most, n)
				for k := 1; k <= n && times[from]; k++ {
					if _, is := least[k]; !is {
						least[k] = from
					}
				}
			}
			firstTime := least[most]
			n, time, err := Most(h, w)
			if n != most || time != firstTime || err != api.OK {
				t.Fatalf("Most(%v, %d): %d, %d, %d, want %d, %d", h, w, n, time, err, most, firstTime)
			}
			if n < last {
				t.Fatalf("Most(%v, %d): %d, and %d within less", h, w, n, last)
			}
			last = n
			for k := 1; k <= api.MaxHits; k++ {
				want, is := least[k]
				time, err := Trigger(h, k, w)
				if time != want || is != (err == api.OK) || !is && err != api.ErrNone || is != (n >= k) {
					t.Fatalf("Trigger(%v, %d, %d): %d, %d, want %d, %v", h, k, w, time, err, want, is)
				}
			}
		}
	})
}
