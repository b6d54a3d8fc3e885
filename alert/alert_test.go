package alert

import (
	"math"
	"math/rand"
	"slices"
	"testing"

	"firn/api"
)

// The numbers that no call may stumble over.
var extremes = []int{math.MinInt, math.MinInt + 1, math.MinInt / 2, -1 << 32, -101, 1 << 32, math.MaxInt/2 + 1, math.MaxInt - 1, math.MaxInt}

// of returns tasks by their numbers: Comes, Late, Work, Comes, ...
func of(numbers ...int) []api.Task {
	var t []api.Task
	for n := 0; n < len(numbers); n += 3 {
		t = append(t, api.Task{Comes: numbers[n], Late: numbers[n+1], Work: numbers[n+2]})
	}
	return t
}

// first and second have the tasks of the chapter's examples.
func first() []api.Task {
	return of(0, 4, 2, 1, 3, 2)
}

func second() []api.Task {
	return of(0, 2, 2, 1, 3, 2)
}

// full returns 12 tasks that ask for all minutes.
func full() []api.Task {
	return slices.Repeat(of(0, 100, 100), 12)
}

// isTasks reports whether tasks are valid, by the chapter's words.
func isTasks(t []api.Task) bool {
	for _, x := range t {
		comes := 0 <= x.Comes && x.Comes <= 99
		late := 1 <= x.Late && x.Late <= 100
		work := 1 <= x.Work && x.Work <= 100
		if !comes || !late || !work || x.Comes >= x.Late {
			return false
		}
	}
	return 1 <= len(t) && len(t) <= 12
}

// randomTasks returns valid tasks, some of them with equal numbers. None is late behind a
// minute, none has more than so much Work.
func randomTasks(next func(int) int, most, minute, work int) []api.Task {
	var t []api.Task
	for n := 1 + next(most); len(t) < n; {
		comes := next(minute)
		x := api.Task{Comes: comes, Late: comes + 1 + next(minute-comes), Work: 1 + next(work)}
		if next(4) > 0 {
			x.Work = min(x.Work, x.Late-x.Comes)
		}
		if len(t) > 0 && next(4) == 0 {
			other := t[next(len(t))]
			if next(2) == 0 && x.Comes < other.Late {
				x.Late = other.Late
			} else {
				x = other
			}
		}
		t = append(t, x)
	}
	return t
}

// manyTasks calls look with random tasks of all sizes and with some at the limits.
func manyTasks(seed int64, times int, look func(t []api.Task, next func(int) int)) {
	next := rand.New(rand.NewSource(seed)).Intn
	for range times {
		minute := []int{2, 6, 20, api.MaxMinute}[next(4)]
		work := []int{1, 1 + minute/8, 1 + minute/3, minute}[next(4)]
		t := randomTasks(next, []int{2, 4, 8, api.MaxTasks}[next(4)], minute, work)
		by := next(api.MaxMinute - minute + 1)
		for a := range t {
			t[a].Comes += by
			t[a].Late += by
		}
		look(t, next)
	}
	for _, t := range [][]api.Task{
		first(), second(), full(), of(0, 1, 1), of(99, 100, 1), of(0, 100, 100), of(0, 100, 1), of(0, 1, 100), of(99, 100, 100),
		of(0, 50, 50, 50, 100, 50), of(0, 50, 51, 50, 100, 50), of(0, 100, 50, 0, 100, 50), of(0, 100, 50, 0, 100, 51),
		full()[:4], full()[:5], slices.Repeat(of(0, 100, 25), 4), slices.Repeat(of(3, 4, 1), 4), slices.Repeat(of(98, 100, 2), 5), slices.Repeat(of(0, 100, 34), 12),
	} {
		look(t, next)
	}
}

// listsOf calls look with all lists of n of some tasks.
func listsOf(n int, some []api.Task, look func(t []api.Task)) {
	if n == 0 {
		look(nil)
		return
	}
	listsOf(n-1, some, func(t []api.Task) {
		for _, x := range some {
			look(append(slices.Clone(t), x))
		}
	})
}

// smallTasks calls look with all lists of up to 3 tasks that are late behind a few
// minutes, from the minute 0 on or up to the last one, and with these minutes.
func smallTasks(look func(t []api.Task, from, to int)) {
	for n := 1; n <= 3; n++ {
		minutes := 6 - n
		for _, from := range []int{0, api.MaxMinute - minutes} {
			var some []api.Task
			for a := range minutes {
				for b := a + 1; b <= minutes; b++ {
					for work := 1; work <= minutes; work++ {
						some = append(some, api.Task{Comes: from + a, Late: from + b, Work: work})
					}
				}
			}
			listsOf(n, some, func(t []api.Task) { look(t, from, from+minutes) })
		}
	}
}

// sure returns a function that returns its first argument and fails a test if
// there is an error.
func sure[T any](t *testing.T, what string) func(T, api.Errno) T {
	t.Helper()
	return func(x T, err api.Errno) T {
		t.Helper()
		if err != api.OK {
			t.Fatalf("%s: error %d", what, err)
		}
		return x
	}
}

// invalidTasks are none.
func invalidTasks() [][]api.Task {
	l := [][]api.Task{
		nil, {}, slices.Repeat(of(0, 100, 1), 13), {{}}, of(0, 1, 1, 0, 0, 0),
		of(0, 0, 1), of(5, 5, 1), of(5, 4, 1), of(100, 100, 1), of(100, 101, 1), of(99, 99, 1),
		of(-1, 1, 1), of(-1, 0, 1), of(0, 101, 1), of(99, 101, 1), of(0, -1, 1), of(1, 0, 1),
		of(0, 1, 0), of(0, 1, -1), of(0, 1, 101), of(0, 100, 101), of(0, 100, 0),
	}
	for _, n := range extremes {
		l = append(l, of(n, 1, 1), of(0, n, 1), of(0, 1, n), of(n, n, 1), of(n, n, n), of(0, 1, 1, n, 1, 1), of(0, 1, 1, 0, n, 1), of(0, 1, 1, 0, 1, n))
	}
	return l
}

// TestValid: P8.2.
func TestValid(t *testing.T) {
	for _, x := range invalidTasks() {
		if Valid(x) {
			t.Errorf("Valid(%v)", x)
		}
	}
	for _, x := range [][]api.Task{first(), second(), full(), of(0, 1, 1), of(99, 100, 1), of(0, 100, 100), of(0, 1, 100), of(98, 99, 7), of(1, 2, 1, 1, 2, 1)} {
		if !Valid(x) {
			t.Errorf("not Valid(%v)", x)
		}
	}
}

// TestValidOfMany: P8.2, tasks with one number changed.
func TestValidOfMany(t *testing.T) {
	values := append([]int{-1, 0, 1, 2, 50, 98, 99, 100, 101}, extremes...)
	valid := 0
	manyTasks(1, 3000, func(x []api.Task, next func(int) int) {
		x = slices.Clone(x)
		one := &x[next(len(x))]
		*[]*int{&one.Comes, &one.Late, &one.Work}[next(3)] = values[next(len(values))]
		if Valid(x) != isTasks(x) {
			t.Fatalf("Valid(%v): %v", x, !isTasks(x))
		}
		if isTasks(x) {
			valid++
		}
	})
	if valid < 300 || valid > 2700 {
		t.Errorf("%d are valid", valid)
	}
}

// calls returns calls of all functions with an error, by their names. Each tells whether
// its results are zero.
func calls(t []api.Task, plan []int, a, b, k, by int) map[string]func() (bool, api.Errno) {
	return map[string]func() (bool, api.Errno){
		"Right":      zero(func() (bool, api.Errno) { return Right(t, plan) }),
		"DoesAll":    zero(func() (bool, api.Errno) { return DoesAll(t, plan) }),
		"Done":       empty(func() ([]int, api.Errno) { return Done(t, plan) }),
		"Free":       zero(func() (int, api.Errno) { return Free(t, plan) }),
		"Urgent":     empty(func() ([]int, api.Errno) { return Urgent(t) }),
		"Can":        zero(func() (bool, api.Errno) { return Can(t) }),
		"Undone":     empty(func() ([]int, api.Errno) { return Undone(t) }),
		"Demand":     zero(func() (int, api.Errno) { return Demand(t, a, b) }),
		"Overfull":   zero(pair(func() (int, int, api.Errno) { return Overfull(t) })),
		"IsOverfull": zero(func() (bool, api.Errno) { return IsOverfull(t, a, b, k) }),
		"Slack":      zero(func() (int, api.Errno) { return Slack(t) }),
		"Longest":    zero(pair(func() (int, int, api.Errno) { return Longest(t) })),
		"Machines":   zero(func() (int, api.Errno) { return Machines(t) }),
		"Several":    zero(func() (bool, api.Errno) { return Several(t, k) }),
		"Moved":      empty(func() ([]api.Task, api.Errno) { return Moved(t, by) }),
		"Turned":     empty(func() ([]api.Task, api.Errno) { return Turned(t) }),
		"Kept":       empty(func() ([]int, api.Errno) { return Kept(t) }),
	}
}

func zero[T comparable](f func() (T, api.Errno)) func() (bool, api.Errno) {
	return func() (bool, api.Errno) {
		x, err := f()
		var nothing T
		return x == nothing, err
	}
}

func empty[T any](f func() ([]T, api.Errno)) func() (bool, api.Errno) {
	return func() (bool, api.Errno) {
		x, err := f()
		return len(x) == 0, err
	}
}

// pair makes of two results one.
func pair(f func() (int, int, api.Errno)) func() ([2]int, api.Errno) {
	return func() ([2]int, api.Errno) {
		a, b, err := f()
		return [2]int{a, b}, err
	}
}

// TestErrorsOfTasks: P8.1, the error of tasks comes before all others.
func TestErrorsOfTasks(t *testing.T) {
	for _, x := range invalidTasks() {
		for _, all := range []map[string]func() (bool, api.Errno){
			calls(x, rest(), 0, 1, 1, 0), calls(x, nil, 1, 0, 0, 1000),
		} {
			for name, f := range all {
				if nothing, err := f(); !nothing || err != api.ErrTasks {
					t.Errorf("%s of %v: error %d, zero: %v", name, x, err, nothing)
				}
			}
		}
	}
}

// TestErrorsOfArguments: P8.1, with a good plan and with a bad one.
func TestErrorsOfArguments(t *testing.T) {
	late := planOf(4, 1) // the task 1 is worked on when it is late
	for _, c := range []struct {
		plan       []int
		a, b, k    int
		by         int
		plans, arg api.Errno
		done       api.Errno
	}{
		{rest(), 0, 1, 1, 0, api.OK, api.OK, api.OK},
		{rest(), 1, 0, 0, 1000, api.OK, api.ErrArg, api.OK},
		{nil, 1, 0, 0, 1000, api.ErrPlan, api.ErrArg, api.ErrPlan},
		{late, 1, 0, 0, 1000, api.OK, api.ErrArg, api.ErrArg},
		{append(late, 7), 1, 0, 5, 1000, api.ErrPlan, api.ErrArg, api.ErrPlan},
	} {
		for name, f := range calls(first(), c.plan, c.a, c.b, c.k, c.by) {
			want := api.OK
			switch name {
			case "Right", "DoesAll", "Free":
				want = c.plans
			case "Done":
				want = c.done
			case "Demand", "IsOverfull", "Several", "Moved":
				want = c.arg
			case "Overfull":
				want = api.ErrNone
			}
			if nothing, err := f(); err != want || err != api.OK && !nothing {
				t.Errorf("%s with %v: error %d, zero: %v, want %d", name, c, err, nothing, want)
			}
		}
	}
}

// TestMovedByHand: P8.7.
func TestMovedByHand(t *testing.T) {
	for _, c := range []struct {
		t    []api.Task
		by   int
		want []api.Task
	}{
		{first(), 0, first()}, {first(), 1, of(1, 5, 2, 2, 4, 2)}, {first(), 96, of(96, 100, 2, 97, 99, 2)},
		{first(), 97, nil}, {first(), -1, nil}, {of(1, 3, 2, 2, 4, 1), -1, of(0, 2, 2, 1, 3, 1)}, {of(1, 3, 2, 2, 4, 1), -2, nil},
		{of(0, 1, 100), 99, of(99, 100, 100)}, {of(0, 1, 100), 100, nil}, {of(99, 100, 1), -99, of(0, 1, 1)}, {of(99, 100, 1), -100, nil},
		{full(), 0, full()}, {full(), 1, nil}, {full(), -1, nil}, {of(0, 1, 1, 9, 100, 1), 1, nil}, {of(0, 90, 1, 9, 100, 1), -1, nil},
		{of(3, 5, 1, 3, 5, 1), 2, of(5, 7, 1, 5, 7, 1)}, {of(50, 60, 1), -51, nil}, {of(50, 60, 1), 41, nil},
	} {
		err := api.OK
		if c.want == nil {
			err = api.ErrArg
		}
		if m, e := Moved(c.t, c.by); !slices.Equal(m, c.want) || e != err {
			t.Errorf("Moved(%v, %d): %v, %d, want %v, %d", c.t, c.by, m, e, c.want, err)
		}
	}
	for _, by := range extremes {
		for _, x := range [][]api.Task{first(), full(), of(99, 100, 1), of(0, 1, 1)} {
			if m, err := Moved(x, by); len(m) > 0 || err != api.ErrArg {
				t.Errorf("Moved(%v, %d): %v, %d", x, by, m, err)
			}
		}
	}
}

// TestMoved: P8.7 and P8.10, by all numbers.
func TestMoved(t *testing.T) {
	manyTasks(2, 150, func(x []api.Task, _ func(int) int) {
		for by := -101; by <= 101; by++ {
			var want []api.Task
			for _, one := range x {
				want = append(want, api.Task{Comes: one.Comes + by, Late: one.Late + by, Work: one.Work})
			}
			m, err := Moved(x, by)
			if !isTasks(want) {
				if len(m) > 0 || err != api.ErrArg {
					t.Fatalf("Moved(%v, %d): %v, %d", x, by, m, err)
				}
				continue
			}
			if !slices.Equal(m, want) || err != api.OK {
				t.Fatalf("Moved(%v, %d): %v, %d", x, by, m, err)
			}
			if by%7 == 0 {
				holdAlike(t, x, m)
			}
		}
	})
}

// TestTurned: P8.7 and P8.10.
func TestTurned(t *testing.T) {
	for _, c := range [][2][]api.Task{
		{first(), of(96, 100, 2, 97, 99, 2)}, {of(0, 1, 5), of(99, 100, 5)}, {of(0, 100, 7), of(0, 100, 7)}, {of(99, 100, 1, 10, 30, 2), of(0, 1, 1, 70, 90, 2)},
	} {
		if turned, err := Turned(c[0]); !slices.Equal(turned, c[1]) || err != api.OK {
			t.Errorf("Turned(%v): %v, %d, want %v", c[0], turned, err, c[1])
		}
	}
	manyTasks(3, 1000, func(x []api.Task, _ func(int) int) {
		turned := sure[[]api.Task](t, "Turned")(Turned(x))
		if again := sure[[]api.Task](t, "Turned")(Turned(turned)); !isTasks(turned) || !slices.Equal(again, x) {
			t.Fatalf("Turned(%v): %v, and again %v", x, turned, again)
		}
		for a, one := range turned {
			if one != (api.Task{Comes: 100 - x[a].Late, Late: 100 - x[a].Comes, Work: x[a].Work}) {
				t.Fatalf("Turned(%v): %v", x, turned)
			}
		}
		holdAlike(t, x, turned)
	})
}

// holdAlike checks that Can, Slack and Machines of tasks are those of others.
func holdAlike(t *testing.T, x, y []api.Task) {
	t.Helper()
	if a, b := sure[bool](t, "Can")(Can(x)), sure[bool](t, "Can")(Can(y)); a != b {
		t.Fatalf("Can(%v): %v, Can(%v): %v", x, a, y, b)
	}
	if a, b := sure[int](t, "Slack")(Slack(x)), sure[int](t, "Slack")(Slack(y)); a != b {
		t.Fatalf("Slack(%v): %v, Slack(%v): %v", x, a, y, b)
	}
	a, e := Machines(x)
	if b, f := Machines(y); a != b || e != f {
		t.Fatalf("Machines(%v): %v, %d, Machines(%v): %v, %d", x, a, e, y, b, f)
	}
}

// more returns a list with room behind it, which must stay as it is.
func more[T any](l []T, behind T) []T {
	return append(l, behind, behind, behind)[:len(l)]
}

// TestMemory: R4.
func TestMemory(t *testing.T) {
	manyTasks(4, 200, func(x []api.Task, next func(int) int) {
		x = more(slices.Clone(x), api.Task{Comes: 7, Late: 8, Work: 9})
		plan := more(sure[[]int](t, "Urgent")(Urgent(x)), 77)
		n := len(x)
		tasks, numbers := slices.Clone(x[:n+3]), slices.Clone(plan[:len(plan)+3])
		for _, f := range []func() []int{
			func() []int { return list(Urgent(x)) },
			func() []int { return list(Undone(x)) },
			func() []int { return list(Kept(x)) },
			func() []int { return list(Done(x, plan)) },
		} {
			holdOwn(t, f, func(n int) int { return 3*n + 1000 })
		}
		for _, f := range []func() []api.Task{
			func() []api.Task { return list(Moved(x, 0)) },
			func() []api.Task { return list(Turned(x)) },
		} {
			holdOwn(t, f, func(api.Task) api.Task { return api.Task{Comes: 55, Late: 44, Work: 33} })
		}
		for _, f := range calls(x, plan, 3, 9, 2, 1) {
			f()
		}
		if !slices.Equal(x[:n+3], tasks) || !slices.Equal(plan[:len(plan)+3], numbers) {
			t.Fatalf("%v or %v was changed", tasks, numbers)
		}
	})
}

func list[T any](l []T, _ api.Errno) []T {
	return l
}

// holdOwn checks that a result stays the same if one that came before it is spoiled.
func holdOwn[T comparable](t *testing.T, f func() []T, spoiled func(T) T) {
	t.Helper()
	l := f()
	kept := slices.Clone(l)
	l = l[:cap(l)]
	for i := range l {
		l[i] = spoiled(l[i])
	}
	if !slices.Equal(f(), kept) {
		t.Fatalf("the result %v is not its own", kept)
	}
}
