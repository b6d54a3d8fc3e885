package alert

import (
	"slices"
	"testing"

	"firn/api"
)

// rest returns the plan in which nothing is worked on.
func rest() []int {
	return slices.Repeat([]int{-1}, api.MaxMinute)
}

// planOf returns a plan with some tasks from a minute on.
func planOf(minute int, tasks ...int) []int {
	return with(rest(), minute, tasks...)
}

// with returns a plan with other tasks from a minute on.
func with(plan []int, minute int, tasks ...int) []int {
	plan = slices.Clone(plan)
	copy(plan[minute:], tasks)
	return plan
}

// has returns the minutes that a task has in a plan.
func has(plan []int, task int) []int {
	var l []int
	for m, a := range plan {
		if a == task {
			l = append(l, m)
		}
	}
	return l
}

// isRight reports whether a plan is right, by the chapter's words.
func isRight(x []api.Task, plan []int) bool {
	for a, one := range x {
		l := has(plan, a)
		if len(l) > one.Work || len(l) > 0 && (l[0] < one.Comes || l[len(l)-1] >= one.Late) {
			return false
		}
	}
	return true
}

// isAll reports whether a plan does all.
func isAll(x []api.Task, plan []int) bool {
	for a, one := range x {
		if len(has(plan, a)) != one.Work {
			return false
		}
	}
	return isRight(x, plan)
}

// doneOf returns for each task behind which minute it is done.
func doneOf(x []api.Task, plan []int) []int {
	var l []int
	for a, one := range x {
		minutes := has(plan, a)
		if len(minutes) < one.Work {
			l = append(l, -1)
		} else {
			l = append(l, minutes[one.Work-1]+1)
		}
	}
	return l
}

// holdPlan holds what is told of a plan against the chapter's words.
func holdPlan(t *testing.T, x []api.Task, plan []int) {
	t.Helper()
	right := isRight(x, plan)
	if is, err := Right(x, plan); is != right || err != api.OK {
		t.Fatalf("Right(%v, %v): %v, %d", x, plan, is, err)
	}
	if is, err := DoesAll(x, plan); is != isAll(x, plan) || err != api.OK {
		t.Fatalf("DoesAll(%v, %v): %v, %d", x, plan, is, err)
	}
	if n, err := Free(x, plan); n != len(has(plan, -1)) || err != api.OK {
		t.Fatalf("Free(%v, %v): %v, %d", x, plan, n, err)
	}
	done, err := Done(x, plan)
	if right && (!slices.Equal(done, doneOf(x, plan)) || err != api.OK) {
		t.Fatalf("Done(%v, %v): %v, %d, want %v", x, plan, done, err, doneOf(x, plan))
	}
	if !right && (len(done) > 0 || err != api.ErrArg) {
		t.Fatalf("Done(%v, %v): %v, %d", x, plan, done, err)
	}
}

// TestPlansByHand: P8.2.
func TestPlansByHand(t *testing.T) {
	for _, c := range []struct {
		x          []api.Task
		plan       []int
		right, all bool
		done       []int
		free       int
	}{
		{first(), planOf(0, 0, 1, 1, 0), true, true, []int{4, 3}, 96},
		{first(), planOf(0, 0, 0, 1), true, false, []int{2, -1}, 97},
		{first(), planOf(0, 0, 0, 1, 1), false, false, nil, 96},    // the task 1 is late in the minute 3
		{first(), planOf(0, 1, 0, 1, 0), false, false, nil, 96},    // it has not come in the minute 0
		{first(), planOf(0, 0, 0, 0), false, false, nil, 97},       // more than its Work
		{first(), planOf(0, 0, 1, 1, 0, 0), false, false, nil, 95}, // more, and too late
		{first(), rest(), true, false, []int{-1, -1}, 100},
		{of(99, 100, 1), planOf(99, 0), true, true, []int{100}, 99},
		{of(99, 100, 1), planOf(98, 0), false, false, nil, 99},
		{of(0, 1, 1), planOf(0, 0), true, true, []int{1}, 99},
		{of(0, 1, 1), planOf(1, 0), false, false, nil, 99},
		{of(0, 1, 2), planOf(0, 0), true, false, []int{-1}, 99},
		{of(0, 100, 100), slices.Repeat([]int{0}, 100), true, true, []int{100}, 0},
		{of(0, 100, 99), slices.Repeat([]int{0}, 100), false, false, nil, 0},
		{of(0, 100, 100), slices.Repeat([]int{0, -1}, 50), true, false, []int{-1}, 50},
		{of(0, 100, 50), slices.Repeat([]int{0, -1}, 50), true, true, []int{99}, 50},
		{of(0, 100, 50), slices.Repeat([]int{-1, 0}, 50), true, true, []int{100}, 50},
		{of(0, 9, 1, 0, 9, 1), planOf(3, 1, -1, 0), true, true, []int{6, 4}, 98},
		{full(), slices.Repeat([]int{11, 3}, 50), true, false, slices.Repeat([]int{-1}, 12), 0},
	} {
		want := api.OK
		if !c.right {
			want = api.ErrArg
		}
		if is, err := Right(c.x, c.plan); is != c.right || err != api.OK {
			t.Errorf("Right(%v, %v): %v, %d", c.x, c.plan, is, err)
		}
		if is, err := DoesAll(c.x, c.plan); is != c.all || err != api.OK {
			t.Errorf("DoesAll(%v, %v): %v, %d", c.x, c.plan, is, err)
		}
		if l, err := Done(c.x, c.plan); !slices.Equal(l, c.done) || err != want {
			t.Errorf("Done(%v, %v): %v, %d, want %v, %d", c.x, c.plan, l, err, c.done, want)
		}
		if n, err := Free(c.x, c.plan); n != c.free || err != api.OK {
			t.Errorf("Free(%v, %v): %v, %d, want %v", c.x, c.plan, n, err, c.free)
		}
		holdPlan(t, c.x, c.plan)
	}
}

// TestPlans: P8.2, plans in which some minutes were changed.
func TestPlans(t *testing.T) {
	rights, alls := 0, 0
	manyTasks(11, 500, func(x []api.Task, next func(int) int) {
		plan := sure[[]int](t, "Urgent")(Urgent(x))
		for range 8 {
			holdPlan(t, x, plan)
			if isRight(x, plan) {
				rights++
			}
			if isAll(x, plan) {
				alls++
			}
			one := x[next(len(x))]
			m := min(max(one.Comes-1, 0)+next(one.Late-one.Comes+2), 99)
			plan = slices.Clone(plan)
			if next(2) == 0 {
				plan[m] = next(len(x)+1) - 1
			} else {
				n := min(m+next(3), 99)
				plan[m], plan[n] = plan[n], plan[m]
			}
		}
	})
	if rights < 800 || rights > 3600 || alls < 200 {
		t.Errorf("%d plans are right, %d do all", rights, alls)
	}
}

// TestErrorsOfPlans: P8.1, also where a plan is none for more than one reason, and not right.
func TestErrorsOfPlans(t *testing.T) {
	for _, x := range [][]api.Task{first(), of(0, 1, 1), full()} {
		n := len(x)
		bad := [][]int{
			nil, {}, {-1}, {0}, rest()[:99], append(rest(), -1), append(rest(), rest()...), slices.Repeat([]int{0}, 99), slices.Repeat([]int{0}, 101), slices.Repeat([]int{-2}, 100),
			planOf(0, n), planOf(99, n), planOf(50, n+1), planOf(0, -2), planOf(99, -2), planOf(3, n, -2), planOf(0, 0, 0, 0, 0, 0, n), append(planOf(0, n), n),
		}
		for _, e := range extremes {
			bad = append(bad, planOf(0, e), planOf(99, e), planOf(0, 0, 0, 0, 0, e), []int{e})
		}
		for _, plan := range bad {
			all := calls(x, plan, 0, 1, 1, 0)
			for _, name := range []string{"Right", "DoesAll", "Done", "Free"} {
				if nothing, err := all[name](); !nothing || err != api.ErrPlan {
					t.Errorf("%s(%v, %v): error %d, zero: %v", name, x, plan, err, nothing)
				}
			}
		}
	}
}
