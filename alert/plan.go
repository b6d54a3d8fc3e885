package alert

import "firn/api"

// none stands in a plan for a minute in which no task is worked on.
const none = -1

// plan tells for each minute the task that is worked on, or none.
type plan [api.MaxMinute]int

// counts are how many minutes each task has.
type counts [api.MaxTasks]int

// planned returns a list as a plan, if tasks are valid and it is one of them.
func planned(t []api.Task, list []int) (plan, api.Errno) {
	if !Valid(t) {
		return plan{}, api.ErrTasks
	}
	if len(list) != api.MaxMinute {
		return plan{}, api.ErrPlan
	}
	for _, a := range list {
		if a < none || a >= len(t) {
			return plan{}, api.ErrPlan
		}
	}
	return plan(list), api.OK
}

// spent returns how many minutes each task has.
func (p plan) spent() counts {
	var c counts
	for _, a := range p {
		if a != none {
			c[a]++
		}
	}
	return c
}

// right reports whether a plan is right for tasks.
func (p plan) right(t []api.Task) bool {
	for m, a := range p {
		if a != none && !open(t[a], m) {
			return false
		}
	}
	spent := p.spent()
	for a, x := range t {
		if spent[a] > x.Work {
			return false
		}
	}
	return true
}

// undone returns the tasks that have fewer minutes than their Work.
func (p plan) undone(t []api.Task) []int {
	var l []int
	spent := p.spent()
	for a, x := range t {
		if spent[a] < x.Work {
			l = append(l, a)
		}
	}
	return l
}

// done returns for each task behind which minute it is done, or -1.
func (p plan) done(t []api.Task) []int {
	l := make([]int, len(t))
	for a := range l {
		l[a] = -1
	}
	var spent counts
	for m, a := range p {
		if a == none {
			continue
		}
		spent[a]++
		if spent[a] == t[a].Work {
			l[a] = m + 1
		}
	}
	return l
}

// longest returns the longest stretch without a free minute, of several the first one.
func (p plan) longest() (a, b int) {
	start := 0
	for m, task := range p {
		if task == none {
			start = m + 1
		} else if m+1-start > b-a {
			a, b = start, m+1
		}
	}
	return a, b
}

// Right reports whether a plan is right.
func Right(t []api.Task, plan []int) (bool, api.Errno) {
	p, err := planned(t, plan)
	if err != api.OK {
		return false, err
	}
	return p.right(t), api.OK
}

// DoesAll reports whether a plan is right and does all tasks.
func DoesAll(t []api.Task, plan []int) (bool, api.Errno) {
	p, err := planned(t, plan)
	if err != api.OK {
		return false, err
	}
	return p.right(t) && len(p.undone(t)) == 0, api.OK
}

// Done returns for each task behind which minute a plan has done it, -1 if never.
func Done(t []api.Task, plan []int) ([]int, api.Errno) {
	p, err := planned(t, plan)
	if err != api.OK {
		return nil, err
	}
	if !p.right(t) {
		return nil, api.ErrArg
	}
	return p.done(t), api.OK
}

// Free returns in how many minutes of a plan no task is worked on.
func Free(t []api.Task, plan []int) (int, api.Errno) {
	p, err := planned(t, plan)
	if err != api.OK {
		return 0, err
	}
	free := 0
	for _, a := range p {
		if a == none {
			free++
		}
	}
	return free, api.OK
}
