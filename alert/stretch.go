package alert

import "firn/api"

// stretches goes through all stretches a, b, by a, then b.
func stretches(yield func(a, b int) bool) {
	for a := range api.MaxMinute {
		for b := a + 1; b <= api.MaxMinute; b++ {
			if !yield(a, b) {
				return
			}
		}
	}
}

// isStretch reports whether two numbers are a stretch.
func isStretch(a, b int) bool {
	return 0 <= a && a < b && b <= api.MaxMinute
}

// demand returns the demand of a stretch.
func demand(t []api.Task, a, b int) int {
	d := 0
	for _, x := range t {
		if x.Comes >= a && x.Late <= b {
			d += x.Work
		}
	}
	return d
}

// slack returns what a stretch has on so many machines, less its demand.
func slack(t []api.Task, a, b, machines int) int {
	return machines*(b-a) - demand(t, a, b)
}

// Demand returns the demand of a stretch.
func Demand(t []api.Task, a, b int) (int, api.Errno) {
	if !Valid(t) {
		return 0, api.ErrTasks
	}
	if !isStretch(a, b) {
		return 0, api.ErrArg
	}
	return demand(t, a, b), api.OK
}

// Overfull returns the first stretch that is overfull for one machine.
func Overfull(t []api.Task) (a, b int, err api.Errno) {
	if !Valid(t) {
		return 0, 0, api.ErrTasks
	}
	for a, b := range stretches {
		if slack(t, a, b, 1) < 0 {
			return a, b, api.OK
		}
	}
	return 0, 0, api.ErrNone
}

// IsOverfull reports whether a stretch is overfull for k machines.
func IsOverfull(t []api.Task, a, b, k int) (bool, api.Errno) {
	if !Valid(t) {
		return false, api.ErrTasks
	}
	if !isStretch(a, b) || !areMachines(k) {
		return false, api.ErrArg
	}
	return slack(t, a, b, k) < 0, api.OK
}

// Slack returns the least of b - a less the demand, over all stretches a, b.
func Slack(t []api.Task) (int, api.Errno) {
	if !Valid(t) {
		return 0, api.ErrTasks
	}
	least := api.MaxMinute // no stretch has more
	for a, b := range stretches {
		least = min(least, slack(t, a, b, 1))
	}
	return least, api.OK
}
