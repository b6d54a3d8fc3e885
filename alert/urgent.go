package alert

import (
	"slices"

	"firn/api"
)

// mostUrgent returns the task that the urgent plan works on in a minute, or none.
func mostUrgent(t []api.Task, spent counts, minute int) int {
	most := none
	for a, x := range t {
		if !open(x, minute) || spent[a] == x.Work {
			continue
		}
		if most == none || x.Late < t[most].Late {
			most = a
		}
	}
	return most
}

// urgent returns the urgent plan.
func urgent(t []api.Task) plan {
	var p plan
	var spent counts
	for m := range p {
		p[m] = mostUrgent(t, spent, m)
		if p[m] != none {
			spent[p[m]]++
		}
	}
	return p
}

// can reports whether some plan does all. The urgent one does if any does: where another
// plan works on a task while a more urgent one waits, the two can exchange their minutes.
func can(t []api.Task) bool {
	return len(urgent(t).undone(t)) == 0
}

// Urgent returns the urgent plan.
func Urgent(t []api.Task) ([]int, api.Errno) {
	if !Valid(t) {
		return nil, api.ErrTasks
	}
	p := urgent(t)
	return p[:], api.OK
}

// Can reports whether some plan does all tasks.
func Can(t []api.Task) (bool, api.Errno) {
	if !Valid(t) {
		return false, api.ErrTasks
	}
	return can(t), api.OK
}

// Undone returns the tasks that the urgent plan does not do.
func Undone(t []api.Task) ([]int, api.Errno) {
	if !Valid(t) {
		return nil, api.ErrTasks
	}
	return urgent(t).undone(t), api.OK
}

// Longest returns the longest stretch in each minute of which the urgent plan works.
func Longest(t []api.Task) (a, b int, err api.Errno) {
	if !Valid(t) {
		return 0, 0, api.ErrTasks
	}
	a, b = urgent(t).longest()
	return a, b, api.OK
}

// Kept returns the tasks that are kept if, from the first one on, each one is kept with
// which all that are kept can still be done.
func Kept(t []api.Task) ([]int, api.Errno) {
	if !Valid(t) {
		return nil, api.ErrTasks
	}
	var kept []int
	var tasks []api.Task
	for a, x := range t {
		if with := append(slices.Clone(tasks), x); can(with) {
			kept, tasks = append(kept, a), with
		}
	}
	return kept, api.OK
}
