package alert

import (
	"cmp"
	"slices"
	"testing"

	"firn/api"
)

// urgentOf returns the urgent plan, by the chapter's words: of all tasks in the order of
// their Late and their index the first one that is there.
func urgentOf(x []api.Task) []int {
	var order []int
	for a := range x {
		order = append(order, a)
	}
	slices.SortFunc(order, func(a, b int) int { return cmp.Or(cmp.Compare(x[a].Late, x[b].Late), cmp.Compare(a, b)) })
	plan := rest()
	for m := range plan {
		for _, a := range order {
			if x[a].Comes <= m && m < x[a].Late && len(has(plan[:m], a)) < x[a].Work {
				plan[m] = a
				break
			}
		}
	}
	return plan
}

// TestUrgentByHand: P8.3 and P8.5.
func TestUrgentByHand(t *testing.T) {
	for _, c := range []struct {
		x      []api.Task
		plan   []int
		undone []int
		a, b   int
	}{
		{first(), planOf(0, 0, 1, 1, 0), nil, 0, 4},
		{second(), planOf(0, 0, 0, 1), []int{1}, 0, 3},
		{of(0, 1, 1), planOf(0, 0), nil, 0, 1},
		{of(99, 100, 1), planOf(99, 0), nil, 99, 100},
		{of(99, 100, 2), planOf(99, 0), []int{0}, 99, 100},
		{of(0, 100, 100), slices.Repeat([]int{0}, 100), nil, 0, 100},
		{full(), slices.Repeat([]int{0}, 100), []int{1, 2, 3, 4, 5, 6, 7, 8, 9, 10, 11}, 0, 100},
		// Of several tasks with one Late the first one, also if it comes later.
		{of(2, 6, 2, 0, 6, 3), planOf(0, 1, 1, 0, 0, 1), nil, 0, 5},
		{of(0, 6, 3, 2, 6, 2), planOf(0, 0, 0, 0, 1, 1), nil, 0, 5},
		// One that has the least Late rests for one that has an even lesser one.
		{of(0, 9, 3, 1, 5, 2, 2, 3, 1), planOf(0, 0, 1, 2, 1, 0, 0), nil, 0, 6},
		// One that can no longer be done is worked on all the same, and what is late is not.
		{of(0, 2, 5, 0, 3, 2), planOf(0, 0, 0, 1), []int{0, 1}, 0, 3},
		// Of several stretches of one length the first one, of two the longer one.
		{of(3, 5, 2, 7, 9, 2), planOf(3, 0, 0, -1, -1, 1, 1), nil, 3, 5},
		{of(3, 5, 1, 7, 9, 2), planOf(3, 0, -1, -1, -1, 1, 1), nil, 7, 9},
		{of(3, 5, 2, 7, 9, 1, 97, 100, 3), with(planOf(3, 0, 0, -1, -1, 1), 97, 2, 2, 2), nil, 97, 100},
		{of(7, 9, 1, 3, 5, 2, 5, 6, 1), planOf(3, 1, 1, 2, -1, 0), nil, 3, 6},
		{of(4, 5, 1, 90, 100, 1), with(planOf(4, 0), 90, 1), nil, 4, 5},
	} {
		if plan, err := Urgent(c.x); !slices.Equal(plan, c.plan) || err != api.OK {
			t.Errorf("Urgent(%v): %v, %d, want %v", c.x, plan, err, c.plan)
		}
		if l, err := Undone(c.x); !slices.Equal(l, c.undone) || err != api.OK {
			t.Errorf("Undone(%v): %v, %d, want %v", c.x, l, err, c.undone)
		}
		if is, err := Can(c.x); is != (c.undone == nil) || err != api.OK {
			t.Errorf("Can(%v): %v, %d", c.x, is, err)
		}
		if a, b, err := Longest(c.x); a != c.a || b != c.b || err != api.OK {
			t.Errorf("Longest(%v): %d, %d, %d, want %d, %d", c.x, a, b, err, c.a, c.b)
		}
	}
}

// holdUrgent holds the urgent plan and what is told of it against the chapter's words.
func holdUrgent(t *testing.T, x []api.Task) {
	t.Helper()
	want := urgentOf(x)
	plan, err := Urgent(x)
	if !slices.Equal(plan, want) || err != api.OK {
		t.Fatalf("Urgent(%v): %v, %d, want %v", x, plan, err, want)
	}
	holdPlan(t, x, plan)
	if is, err := Right(x, plan); !is || err != api.OK {
		t.Fatalf("Urgent(%v): %v is not right, %d", x, plan, err)
	}
	var undone []int
	for a, one := range x {
		if len(has(want, a)) < one.Work {
			undone = append(undone, a)
		}
	}
	if l, err := Undone(x); !slices.Equal(l, undone) || err != api.OK {
		t.Fatalf("Undone(%v): %v, %d, want %v", x, l, err, undone)
	}
	if is, err := Can(x); is != (undone == nil) || err != api.OK {
		t.Fatalf("Can(%v): %v, %d", x, is, err)
	}
	for m, a := range plan {
		for b, one := range x {
			if a == -1 && one.Comes <= m && m < one.Late && len(has(plan[:m], b)) < one.Work {
				t.Fatalf("Urgent(%v) rests in the minute %d", x, m)
			}
		}
	}
	holdLongest(t, x, plan)
}

// holdLongest holds the longest stretch against all stretches.
func holdLongest(t *testing.T, x []api.Task, plan []int) {
	t.Helper()
	var from, to int
	for a := range 100 {
		for b := a + 1; b <= 100; b++ {
			if !slices.Contains(plan[a:b], -1) && b-a > to-from {
				from, to = a, b
			}
		}
	}
	if a, b, err := Longest(x); a != from || b != to || a >= b || err != api.OK {
		t.Fatalf("Longest(%v): %d, %d, %d, want %d, %d", x, a, b, err, from, to)
	}
}

// TestUrgent: P8.3, P8.5 and P8.9.
func TestUrgent(t *testing.T) {
	cans := 0
	manyTasks(21, 1000, func(x []api.Task, _ func(int) int) {
		holdUrgent(t, x)
		if sure[bool](t, "Can")(Can(x)) {
			cans++
		}
	})
	if cans < 300 || cans > 700 {
		t.Errorf("%d can be done", cans)
	}
}

// allPlans calls look with all plans of n tasks that rest but for some minutes.
func allPlans(n, from, to int, look func(plan []int)) {
	plan := rest()
	var fill func(m int)
	fill = func(m int) {
		if m == to {
			look(plan)
			return
		}
		for a := -1; a < n; a++ {
			plan[m] = a
			fill(m + 1)
		}
	}
	fill(from)
}

// TestAllPlans: P8.2, P8.3, P8.8 and P8.9, all plans of small tasks.
func TestAllPlans(t *testing.T) {
	smallTasks(func(x []api.Task, from, to int) {
		some, least := false, api.MaxMinute
		allPlans(len(x), from, to, func(plan []int) {
			right, all := isRight(x, plan), isAll(x, plan)
			if is, err := Right(x, plan); is != right || err != api.OK {
				t.Fatalf("Right(%v, %v): %v, %d", x, plan, is, err)
			}
			if is, err := DoesAll(x, plan); is != all || err != api.OK {
				t.Fatalf("DoesAll(%v, %v): %v, %d", x, plan, is, err)
			}
			some = some || all
			if right {
				least = min(least, len(has(plan, -1)))
			}
		})
		plan := sure[[]int](t, "Urgent")(Urgent(x))
		if free := sure[int](t, "Free")(Free(x, plan)); free != least {
			t.Fatalf("Urgent(%v) has %d free minutes, another one %d", x, free, least)
		}
		if is, err := Can(x); is != some || err != api.OK {
			t.Fatalf("Can(%v): %v, %d", x, is, err)
		}
	})
}

// TestFewestFree: P8.9. No right plan can work in more minutes than are open to some of
// the tasks, and than the others ask for; of all such bounds one is reached.
func TestFewestFree(t *testing.T) {
	manyTasks(22, 300, func(x []api.Task, _ func(int) int) {
		most := api.MaxMinute
		for some := range 1 << len(x) {
			most = min(most, room(x, some, 1)+work(x, ^some))
		}
		plan := sure[[]int](t, "Urgent")(Urgent(x))
		if free := sure[int](t, "Free")(Free(x, plan)); free != api.MaxMinute-most {
			t.Fatalf("Urgent(%v) has %d free minutes, want %d", x, free, api.MaxMinute-most)
		}
	})
}

// TestLess: P8.10, with one task less, or with less Work.
func TestLess(t *testing.T) {
	manyTasks(23, 400, func(x []api.Task, next func(int) int) {
		less := slices.Clone(x)
		a := next(len(x))
		if next(2) == 0 && len(x) > 1 {
			less = slices.Delete(less, a, a+1)
		} else if less[a].Work > 1 {
			less[a].Work -= 1 + next(less[a].Work-1)
		}
		if sure[bool](t, "Can")(Can(x)) && !sure[bool](t, "Can")(Can(less)) {
			t.Fatalf("Can(%v), but not Can(%v)", x, less)
		}
		k, err := Machines(x)
		if l, e := Machines(less); err == api.OK && (e != api.OK || l > k) {
			t.Fatalf("Machines(%v): %d, but Machines(%v): %d, %d", x, k, less, l, e)
		}
	})
}

// TestKeptByHand: P8.7.
func TestKeptByHand(t *testing.T) {
	for _, c := range []struct {
		x    []api.Task
		want []int
	}{
		{first(), []int{0, 1}}, {second(), []int{0}}, {full(), []int{0}},
		{of(0, 1, 2), nil}, {of(0, 1, 2, 5, 6, 2), nil}, {of(0, 1, 2, 5, 6, 1), []int{1}},
		{of(0, 4, 3, 0, 4, 2, 0, 4, 1), []int{0, 2}}, {of(0, 4, 1, 0, 4, 2, 0, 4, 3), []int{0, 1}},
		{of(0, 100, 100, 0, 1, 1, 99, 100, 1), []int{0}}, {of(0, 1, 1, 99, 100, 1, 0, 100, 100, 0, 100, 98), []int{0, 1, 3}},
		{of(5, 6, 1, 5, 6, 1, 5, 6, 1), []int{0}}, {of(4, 6, 1, 4, 6, 1, 4, 6, 1), []int{0, 1}},
	} {
		if l, err := Kept(c.x); !slices.Equal(l, c.want) || err != api.OK {
			t.Errorf("Kept(%v): %v, %d, want %v", c.x, l, err, c.want)
		}
	}
}

// TestKept: P8.7 and P8.11.
func TestKept(t *testing.T) {
	some := 0
	can := func(x []api.Task) bool { return len(x) == 0 || isAll(x, urgentOf(x)) }
	manyTasks(24, 400, func(x []api.Task, _ func(int) int) {
		var tasks []api.Task
		var want []int
		for a, one := range x {
			if can(append(slices.Clone(tasks), one)) {
				tasks, want = append(tasks, one), append(want, a)
			}
		}
		kept, err := Kept(x)
		if !slices.Equal(kept, want) || err != api.OK {
			t.Fatalf("Kept(%v): %v, %d, want %v", x, kept, err, want)
		}
		if len(kept) > 0 && len(kept) < len(x) {
			some++
		}
		holdKept(t, x, kept)
	})
	if some < 100 {
		t.Errorf("some, but not all, are kept %d times", some)
	}
}

// holdKept checks that what is kept can be done, and with any other one beside it not.
func holdKept(t *testing.T, x []api.Task, kept []int) {
	t.Helper()
	var tasks []api.Task
	for _, a := range kept {
		tasks = append(tasks, x[a])
	}
	if len(kept) > 0 && !sure[bool](t, "Can")(Can(tasks)) {
		t.Fatalf("Kept(%v): %v cannot be done", x, kept)
	}
	for a, one := range x {
		if !slices.Contains(kept, a) && sure[bool](t, "Can")(Can(append(slices.Clone(tasks), one))) {
			t.Fatalf("Kept(%v): %v can be done with %d", x, kept, a)
		}
	}
}
