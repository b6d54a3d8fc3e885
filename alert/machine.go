package alert

import "firn/api"

// maxMachines is the greatest number of machines.
const maxMachines = 4

// areMachines reports whether a number is one of machines.
func areMachines(k int) bool {
	return 1 <= k && k <= maxMachines
}

// shifts are plans of several machines as they come about.
type shifts struct {
	tasks    []api.Task
	machines int
	// The tasks that are worked on in each minute, never more than there are machines.
	minutes [api.MaxMinute]map[int]bool
}

// looked is what a search for one more minute has looked at. Nothing is worth a second
// look: what could be reached from it was tried at the first one.
type looked struct {
	tasks   [api.MaxTasks]bool
	minutes [api.MaxMinute]bool
}

func newShifts(t []api.Task, machines int) *shifts {
	s := &shifts{tasks: t, machines: machines}
	for m := range s.minutes {
		s.minutes[m] = map[int]bool{}
	}
	return s
}

// give gives a task one more minute, if need be one for which other tasks change theirs,
// and reports whether it could. If it could not, no plans give all tasks what they have
// and this one a minute more.
func (s *shifts) give(a int, seen *looked) bool {
	seen.tasks[a] = true
	for m := s.tasks[a].Comes; m < s.tasks[a].Late; m++ {
		if s.minutes[m][a] || seen.minutes[m] {
			continue
		}
		seen.minutes[m] = true
		if s.makeRoom(m, seen) {
			s.minutes[m][a] = true
			return true
		}
	}
	return false
}

// makeRoom sees to it that a machine is free in a minute, if need be by giving one of
// its tasks another minute, and reports whether it could.
func (s *shifts) makeRoom(m int, seen *looked) bool {
	if len(s.minutes[m]) < s.machines {
		return true
	}
	for b := range s.tasks {
		if s.minutes[m][b] && !seen.tasks[b] && s.give(b, seen) {
			delete(s.minutes[m], b)
			return true
		}
	}
	return false
}

// several reports whether some plans of so many machines do all tasks.
func several(t []api.Task, machines int) bool {
	s := newShifts(t, machines)
	for a, x := range t {
		for range x.Work {
			if !s.give(a, &looked{}) {
				return false
			}
		}
	}
	return true
}

// Several reports whether some plans of k machines do all tasks.
func Several(t []api.Task, k int) (bool, api.Errno) {
	if !Valid(t) {
		return false, api.ErrTasks
	}
	if !areMachines(k) {
		return false, api.ErrArg
	}
	return several(t, k), api.OK
}

// Machines returns the fewest machines that do all tasks.
func Machines(t []api.Task) (int, api.Errno) {
	if !Valid(t) {
		return 0, api.ErrTasks
	}
	for k := 1; k <= maxMachines; k++ {
		if several(t, k) {
			return k, api.OK
		}
	}
	return 0, api.ErrNone
}
