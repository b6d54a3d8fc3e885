package alert

import (
	"testing"

	"firn/api"
)

// demandOf returns the demand of a stretch, by the chapter's words.
func demandOf(x []api.Task, a, b int) int {
	d := 0
	for _, one := range x {
		if a <= one.Comes && one.Late <= b {
			d += one.Work
		}
	}
	return d
}

// TestStretchesByHand: P8.4.
func TestStretchesByHand(t *testing.T) {
	for _, c := range []struct {
		x     []api.Task
		slack int
		a, b  int
		err   api.Errno
	}{
		{first(), 0, 0, 0, api.ErrNone}, {second(), -1, 0, 3, api.OK},
		{of(0, 1, 1), 0, 0, 0, api.ErrNone}, {of(0, 2, 1), 1, 0, 0, api.ErrNone}, {of(0, 100, 1), 1, 0, 0, api.ErrNone},
		{of(0, 100, 100), 0, 0, 0, api.ErrNone}, {of(0, 100, 99), 1, 0, 0, api.ErrNone}, {full(), -1100, 0, 100, api.OK},
		{of(99, 100, 1), 0, 0, 0, api.ErrNone}, {of(99, 100, 2), -1, 99, 100, api.OK}, {of(99, 100, 100), -99, 1, 100, api.OK},
		{of(0, 1, 100), -99, 0, 1, api.OK},
		// The first stretch need not be the fullest one, nor the shortest one.
		{of(5, 7, 3, 20, 21, 30), -29, 0, 21, api.OK}, {of(5, 7, 3, 20, 21, 9), -8, 5, 7, api.OK}, {of(5, 7, 3), -1, 5, 7, api.OK}, {of(5, 7, 4), -2, 4, 7, api.OK}, {of(5, 7, 9, 9, 12, 4), -7, 0, 7, api.OK},
		// It is full by tasks that overlap, none of which is too long.
		{of(3, 6, 2, 4, 7, 2, 3, 7, 1), -1, 3, 7, api.OK}, {of(3, 6, 2, 4, 7, 2), 0, 0, 0, api.ErrNone},
		{of(3, 6, 2, 4, 7, 2, 50, 60, 10), 0, 0, 0, api.ErrNone},
	} {
		if n, err := Slack(c.x); n != c.slack || err != api.OK {
			t.Errorf("Slack(%v): %d, %d, want %d", c.x, n, err, c.slack)
		}
		if a, b, err := Overfull(c.x); a != c.a || b != c.b || err != c.err {
			t.Errorf("Overfull(%v): %d, %d, %d, want %d, %d, %d", c.x, a, b, err, c.a, c.b, c.err)
		}
	}
	for _, c := range []struct{ a, b, demand int }{
		{0, 4, 4}, {0, 3, 2}, {1, 3, 2}, {1, 4, 2}, {0, 100, 4}, {2, 3, 0}, {1, 2, 0}, {2, 4, 0}, {99, 100, 0}, {0, 1, 0},
	} {
		if d, err := Demand(first(), c.a, c.b); d != c.demand || err != api.OK {
			t.Errorf("Demand(%d, %d): %d, %d, want %d", c.a, c.b, d, err, c.demand)
		}
	}
	// A demand of 12 is overfull for 3 machines in 3 minutes, for 4 it is just full.
	x := of(6, 9, 5, 6, 9, 4, 7, 8, 3)
	for k := 1; k <= 4; k++ {
		if is, err := IsOverfull(x, 6, 9, k); is != (k < 4) || err != api.OK {
			t.Errorf("IsOverfull for %d: %v, %d", k, is, err)
		}
	}
}

// TestStretches: P8.4 and P8.8, all stretches.
func TestStretches(t *testing.T) {
	manyTasks(31, 200, func(x []api.Task, _ func(int) int) {
		least, from, to := 1000, -1, -1
		for a := range 100 {
			for b := a + 1; b <= 100; b++ {
				d := demandOf(x, a, b)
				if got, err := Demand(x, a, b); got != d || err != api.OK {
					t.Fatalf("Demand(%v, %d, %d): %d, %d, want %d", x, a, b, got, err, d)
				}
				for k := 1; k <= 4; k++ {
					if is, err := IsOverfull(x, a, b, k); is != (d > k*(b-a)) || err != api.OK {
						t.Fatalf("IsOverfull(%v, %d, %d, %d): %v, %d", x, a, b, k, is, err)
					}
				}
				least = min(least, b-a-d)
				if d > b-a && from < 0 {
					from, to = a, b
				}
			}
		}
		if n, err := Slack(x); n != least || err != api.OK {
			t.Fatalf("Slack(%v): %d, %d, want %d", x, n, err, least)
		}
		a, b, err := Overfull(x)
		if from < 0 && (a != 0 || b != 0 || err != api.ErrNone) {
			t.Fatalf("Overfull(%v): %d, %d, %d, but there is none", x, a, b, err)
		}
		if from >= 0 && (a != from || b != to || err != api.OK) {
			t.Fatalf("Overfull(%v): %d, %d, %d, want %d, %d", x, a, b, err, from, to)
		}
	})
}

// TestInTime: P8.8.
func TestInTime(t *testing.T) {
	hold := func(x []api.Task) {
		t.Helper()
		can := sure[bool](t, "Can")(Can(x))
		all := sure[bool](t, "DoesAll")(DoesAll(x, sure[[]int](t, "Urgent")(Urgent(x))))
		slack := sure[int](t, "Slack")(Slack(x))
		a, b, err := Overfull(x)
		if all != can || (slack >= 0) != can || (err == api.ErrNone) != can || err != api.OK && err != api.ErrNone {
			t.Fatalf("%v: Can %v, the urgent plan does all: %v, Slack %d, Overfull %d, %d, %d", x, can, all, slack, a, b, err)
		}
		if err == api.OK && !sure[bool](t, "IsOverfull")(IsOverfull(x, a, b, 1)) {
			t.Fatalf("%v: Overfull %d, %d is not", x, a, b)
		}
	}
	manyTasks(32, 1500, func(x []api.Task, _ func(int) int) { hold(x) })
	smallTasks(func(x []api.Task, _, _ int) { hold(x) })
}

// TestErrorsOfStretches: P8.1 and P8.4.
func TestErrorsOfStretches(t *testing.T) {
	bad := [][2]int{{0, 0}, {5, 5}, {5, 4}, {100, 100}, {100, 101}, {99, 101}, {0, 101}, {-1, 5}, {-1, 0}, {-2, -1}, {1, 0}, {100, 0}}
	for _, n := range extremes {
		bad = append(bad, [2]int{n, 5}, [2]int{5, n}, [2]int{n, n}, [2]int{n, 0}, [2]int{0, n}, [2]int{n, 100})
	}
	for _, x := range [][]api.Task{first(), full()} {
		for _, c := range bad {
			if d, err := Demand(x, c[0], c[1]); d != 0 || err != api.ErrArg {
				t.Errorf("Demand(%v): %d, %d", c, d, err)
			}
			for k := range 6 {
				if is, err := IsOverfull(x, c[0], c[1], k); is || err != api.ErrArg {
					t.Errorf("IsOverfull(%v, %d): %v, %d", c, k, is, err)
				}
			}
		}
		for _, k := range append([]int{-4, -1, 0, 5, 6}, extremes...) {
			if is, err := IsOverfull(x, 0, 1, k); is || err != api.ErrArg {
				t.Errorf("IsOverfull for %d: %v, %d", k, is, err)
			}
		}
	}
}
