package alert

import (
	"math/bits"
	"testing"

	"firn/api"
)

// work returns the sum of the Work of some tasks, those whose bits are set.
func work(x []api.Task, some int) int {
	sum := 0
	for a, one := range x {
		sum += some >> a & 1 * one.Work
	}
	return sum
}

// masks returns for each minute the tasks that may be worked on, as bits.
func masks(x []api.Task) [api.MaxMinute]int {
	var l [api.MaxMinute]int
	for a, one := range x {
		for m := one.Comes; m < one.Late; m++ {
			l[m] |= 1 << a
		}
	}
	return l
}

// room returns how many minutes k machines have at most for some tasks.
func room(x []api.Task, some, k int) int {
	sum := 0
	for _, mask := range masks(x) {
		sum += min(k, bits.OnesCount(uint(mask&some)))
	}
	return sum
}

// severalOf reports whether k machines can do all: they can if there is room for any of
// the tasks (no cut in the flow from tasks to minutes is less than all Work).
func severalOf(x []api.Task, k int) bool {
	for some := range 1 << len(x) {
		if work(x, some) > room(x, some, k) {
			return false
		}
	}
	return true
}

// tried reports whether some plans of k do all, by trying them: tasks are kept by what is
// left of their Work.
func tried(x []api.Task, left [3]int, m, to, k int) bool {
	if left == [3]int{} {
		return true
	}
	if m == to {
		return false
	}
	for some := range 1 << len(x) {
		if bits.OnesCount(uint(some)) > k {
			continue
		}
		then, can := left, true
		for a, one := range x {
			if some>>a&1 == 1 {
				then[a]--
				can = can && one.Comes <= m && m < one.Late && then[a] >= 0
			}
		}
		if can && tried(x, then, m+1, to, k) {
			return true
		}
	}
	return false
}

// TestMachinesByHand: P8.6.
func TestMachinesByHand(t *testing.T) {
	for _, c := range []struct {
		x    []api.Task
		want int
	}{
		{first(), 1}, {second(), 2}, {of(0, 1, 1), 1}, {of(0, 100, 100), 1}, {of(99, 100, 1), 1},
		// A task is worked on by one machine in each minute: one that is too long cannot be done.
		{of(0, 1, 2), 0}, {of(0, 3, 4), 0}, {of(0, 100, 1, 0, 99, 100), 0}, {of(0, 1, 100), 0},
		{full(), 0}, {full()[:4], 4}, {full()[:5], 0}, {full()[:3], 3}, {full()[:2], 2},
		{of(5, 6, 1, 5, 6, 1, 5, 6, 1), 3}, {of(5, 6, 1, 5, 6, 1, 5, 6, 1, 5, 6, 1), 4}, {of(5, 6, 1, 5, 6, 1, 5, 6, 1, 5, 6, 1, 5, 6, 1), 0},
		// Three tasks of two minutes take turns on two machines, in three minutes.
		{of(0, 3, 2, 0, 3, 2, 0, 3, 2), 2}, {of(0, 3, 2, 0, 3, 2, 0, 3, 2, 0, 3, 2), 3}, {of(0, 3, 3, 0, 3, 2, 0, 3, 2), 3}, {of(0, 3, 3, 0, 3, 2, 0, 3, 1), 2},
		// No stretch is overfull for two, but the tasks cannot share the minutes that are there.
		{of(0, 3, 3, 1, 2, 1, 1, 2, 1), 3}, {of(0, 4, 4, 1, 3, 2, 1, 3, 1), 3}, {of(0, 4, 4, 1, 3, 1, 1, 3, 1), 2},
		// The least Late first leaves the longest task for too long.
		{of(0, 3, 1, 0, 3, 1, 0, 4, 4), 2}, {of(0, 2, 1, 0, 2, 1, 0, 3, 3), 2},
		{of(0, 100, 25, 0, 100, 25, 0, 100, 25, 0, 100, 25), 1}, {of(0, 100, 25, 0, 100, 25, 0, 100, 25, 0, 100, 26), 2},
		{of(0, 100, 67, 0, 100, 67, 0, 100, 66), 2}, {of(0, 100, 67, 0, 100, 67, 0, 100, 67), 3},
	} {
		want := api.OK
		if c.want == 0 {
			want = api.ErrNone
		}
		if k, err := Machines(c.x); k != c.want || err != want {
			t.Errorf("Machines(%v): %d, %d, want %d, %d", c.x, k, err, c.want, want)
		}
		for k := 1; k <= 4; k++ {
			if is, err := Several(c.x, k); is != (c.want > 0 && k >= c.want) || err != api.OK {
				t.Errorf("Several(%v, %d): %v, %d", c.x, k, is, err)
			}
		}
	}
}

// holdMachines holds the fewest machines against what they can do, and against the
// chapter's consequences.
func holdMachines(t *testing.T, x []api.Task, can [5]bool) {
	t.Helper()
	fewest, err := 0, api.ErrNone
	for k := 4; k >= 1; k-- {
		if is, err := Several(x, k); is != can[k] || err != api.OK {
			t.Fatalf("Several(%v, %d): %v, %d, want %v", x, k, is, err, can[k])
		}
		if can[k] {
			fewest, err = k, api.OK
		}
		if k < 4 && can[k] && !can[k+1] {
			t.Fatalf("%v can be done with %d machines, but not with %d", x, k, k+1)
		}
	}
	if k, e := Machines(x); k != fewest || e != err {
		t.Fatalf("Machines(%v): %d, %d, want %d, %d", x, k, e, fewest, err)
	}
	if is, err := Can(x); is != can[1] || err != api.OK {
		t.Fatalf("Can(%v): %v, %d, with one machine %v", x, is, err, can[1])
	}
}

// TestMachines: P8.6 and P8.10, with all bounds.
func TestMachines(t *testing.T) {
	var times [5]int
	manyTasks(41, 600, func(x []api.Task, _ func(int) int) {
		var can [5]bool
		for k := 1; k <= 4; k++ {
			can[k] = severalOf(x, k)
		}
		holdMachines(t, x, can)
		k, _ := Machines(x)
		times[k]++
	})
	for k, n := range times {
		if n < 10 {
			t.Errorf("%d times there are %d machines", n, k)
		}
	}
}

// TestMachinesOfAFew: P8.6 and P8.10, all plans of all small tasks.
func TestMachinesOfAFew(t *testing.T) {
	smallTasks(func(x []api.Task, from, to int) {
		var left [3]int
		for a, one := range x {
			left[a] = one.Work
		}
		var can [5]bool
		for k := 1; k <= 4; k++ {
			can[k] = tried(x, left, from, to, k)
		}
		holdMachines(t, x, can)
	})
}

// TestOverfullForSeveral: P8.10, k machines cannot do all if a stretch is overfull for them.
func TestOverfullForSeveral(t *testing.T) {
	cannot := 0
	manyTasks(42, 60, func(x []api.Task, _ func(int) int) {
		for k := 1; k <= 4; k++ {
			if !sure[bool](t, "Several")(Several(x, k)) {
				cannot++
				continue
			}
			for a := range 100 {
				for b := a + 1; b <= 100; b++ {
					if sure[bool](t, "IsOverfull")(IsOverfull(x, a, b, k)) {
						t.Fatalf("Several(%v, %d), but %d, %d is overfull", x, k, a, b)
					}
				}
			}
		}
	})
	if cannot < 20 {
		t.Errorf("machines cannot do all %d times", cannot)
	}
}

// TestErrorsOfMachines: P8.1 and P8.6.
func TestErrorsOfMachines(t *testing.T) {
	for _, x := range [][]api.Task{first(), full(), of(0, 1, 2)} {
		for _, k := range append([]int{-4, -1, 0, 5, 6, 100}, extremes...) {
			if is, err := Several(x, k); is || err != api.ErrArg {
				t.Errorf("Several(%v, %d): %v, %d", x, k, is, err)
			}
		}
	}
}
