package tick

import (
	"math"
	"slices"
	"testing"

	"firn/api"
)

// The numbers that no call may stumble over.
var extremes = []int{math.MinInt, math.MinInt + 1, -1, math.MaxInt - 1, math.MaxInt}

func TestValidReadings(t *testing.T) {
	for _, c := range []struct {
		b        int
		readings []int
		is       bool
	}{
		{4, []int{0}, true},
		{4, []int{15, 0, 7}, true},
		{4, []int{16}, false},
		{4, []int{0, -1}, false},
		{4, nil, false},
		{4, []int{}, false},
		{4, make([]int, api.MaxRead), true},
		{4, make([]int, api.MaxRead+1), false},
		{3, []int{0}, false},
		{33, []int{0}, false},
		{64, []int{0}, false},
		{32, []int{1<<32 - 1}, true},
		{32, []int{1 << 32}, false},
		{31, []int{1 << 31}, false},
	} {
		if is := ValidReadings(c.b, c.readings); is != c.is {
			t.Errorf("ValidReadings(%d, %v): %v", c.b, c.readings, is)
		}
	}
	for _, n := range extremes {
		if ValidReadings(n, []int{0}) || ValidReadings(4, []int{n}) {
			t.Errorf("ValidReadings with %d", n)
		}
	}
}

func TestValidCounts(t *testing.T) {
	for _, c := range []struct {
		counts []int
		is     bool
	}{
		{[]int{0}, true},
		{[]int{5, 5, 6}, true},
		{[]int{5, 4}, false},
		{[]int{-1}, false},
		{[]int{1 << 40, 1 << 40}, true},
		{[]int{1<<40 + 1}, false},
		{nil, false},
		{[]int{}, false},
		{make([]int, api.MaxRead), true},
		{make([]int, api.MaxRead+1), false},
	} {
		if is := ValidCounts(c.counts); is != c.is {
			t.Errorf("ValidCounts(%v): %v", c.counts, is)
		}
	}
	for _, n := range extremes {
		if ValidCounts([]int{n}) || ValidCounts([]int{0, n}) {
			t.Errorf("ValidCounts with %d", n)
		}
	}
}

func TestCountsAndRounds(t *testing.T) {
	for _, c := range []struct {
		b        int
		readings []int
		counts   []int
		rounds   int
	}{
		{4, []int{14, 1, 1, 0}, []int{14, 17, 17, 32}, 2},
		{4, []int{15}, []int{15}, 0},
		{4, []int{15, 15, 0, 15}, []int{15, 15, 16, 31}, 1},
		{8, []int{200, 100, 0}, []int{200, 356, 512}, 2},
		{32, []int{1<<32 - 1, 1<<32 - 2}, []int{1<<32 - 1, 2<<32 - 2}, 1},
	} {
		counts, err := Counts(c.b, c.readings)
		if !slices.Equal(counts, c.counts) || err != api.OK {
			t.Errorf("Counts(%d, %v): %v, %d", c.b, c.readings, counts, err)
		}
		rounds, err := Rounds(c.b, c.readings)
		if rounds != c.rounds || err != api.OK {
			t.Errorf("Rounds(%d, %v): %d, %d", c.b, c.readings, rounds, err)
		}
	}
}

// TestMostRounds lets the widest counter go round as often as it can.
func TestMostRounds(t *testing.T) {
	readings := make([]int, api.MaxRead)
	for i := range readings {
		readings[i] = 1<<32 - 1 - i
	}
	counts, err := Counts(api.MaxBits, readings)
	if err != api.OK || counts[59] != 59<<32+readings[59] || !ValidCounts(counts) {
		t.Errorf("Counts: %v, %d", counts, err)
	}
	if n, err := Rounds(api.MaxBits, readings); n != 59 || err != api.OK {
		t.Errorf("Rounds: %d, %d", n, err)
	}
}

func TestReadingsAndSteps(t *testing.T) {
	counts := []int{3, 16, 16, 100, 1 << 40}
	if l, err := Readings(4, counts); !slices.Equal(l, []int{3, 0, 0, 4, 0}) || err != api.OK {
		t.Errorf("Readings: %v, %d", l, err)
	}
	if l, err := Readings(32, []int{1<<40 - 1}); !slices.Equal(l, []int{1<<32 - 1}) || err != api.OK {
		t.Errorf("Readings: %v, %d", l, err)
	}
	if l, err := Steps(counts); !slices.Equal(l, []int{13, 0, 84, 1<<40 - 100}) || err != api.OK {
		t.Errorf("Steps: %v, %d", l, err)
	}
	if l, err := Steps([]int{7}); len(l) != 0 || err != api.OK {
		t.Errorf("Steps of one: %v, %d", l, err)
	}
}

// TestCounterErrors: P1.1, the bits come before the list, and nothing comes with an error.
func TestCounterErrors(t *testing.T) {
	good := []int{1}
	bad := []int{2, -1}
	for _, c := range []struct {
		b    int
		list []int
		want api.Errno
	}{
		{3, good, api.ErrArg},
		{3, bad, api.ErrArg},
		{33, nil, api.ErrArg},
		{math.MinInt, bad, api.ErrArg},
		{math.MaxInt, good, api.ErrArg},
		{4, bad, api.ErrCounts},
		{32, nil, api.ErrCounts},
		{4, make([]int, api.MaxRead+1), api.ErrCounts},
	} {
		if l, err := Counts(c.b, c.list); err != c.want || l != nil {
			t.Errorf("Counts(%d, %v): %v, %d", c.b, c.list, l, err)
		}
		if n, err := Rounds(c.b, c.list); err != c.want || n != 0 {
			t.Errorf("Rounds(%d, %v): %d, %d", c.b, c.list, n, err)
		}
		if l, err := Readings(c.b, c.list); err != c.want || l != nil {
			t.Errorf("Readings(%d, %v): %v, %d", c.b, c.list, l, err)
		}
	}
	for _, list := range [][]int{nil, bad, {3, 2}, make([]int, api.MaxRead+1)} {
		if l, err := Steps(list); err != api.ErrCounts || l != nil {
			t.Errorf("Steps(%v): %v, %d", list, l, err)
		}
	}
	// A reading may be too great where a count of this size is not.
	if _, err := Counts(4, []int{16}); err != api.ErrCounts {
		t.Errorf("Counts: %d", err)
	}
	// A list may go down where counts may not.
	if _, err := Counts(4, []int{3, 2}); err != api.OK {
		t.Errorf("Counts: %d", err)
	}
	if _, err := Readings(4, []int{3, 2}); err != api.ErrCounts {
		t.Errorf("Readings: %d", err)
	}
}

// TestCountersThereAndBack: P1.8, and each count is the least one that it can be.
func TestCountersThereAndBack(t *testing.T) {
	next := numbers(1)
	for range 2000 {
		b := 4 + next(29)
		readings := make([]int, 1+next(api.MaxRead))
		for i := range readings {
			readings[i] = next(1 << b)
		}
		counts, err := Counts(b, readings)
		if err != api.OK || !ValidCounts(counts) || counts[0] != readings[0] {
			t.Fatalf("Counts(%d, %v): %v, %d", b, readings, counts, err)
		}
		steps, err := Steps(counts)
		if err != api.OK || len(steps) != len(counts)-1 {
			t.Fatalf("Steps(%v): %v, %d", counts, steps, err)
		}
		for i, s := range steps {
			if s < 0 || s >= 1<<b || counts[i]+s != counts[i+1] {
				t.Fatalf("Steps(%v): %v", counts, steps)
			}
		}
		back, err := Readings(b, counts)
		if !slices.Equal(back, readings) || err != api.OK {
			t.Fatalf("Readings(%d, %v): %v, %d", b, counts, back, err)
		}
		again, err := Counts(b, back)
		if !slices.Equal(again, counts) || err != api.OK {
			t.Fatalf("Counts(%d, %v): %v, %d", b, back, again, err)
		}
		rounds, err := Rounds(b, readings)
		if rounds != counts[len(counts)-1]/(1<<b) || err != api.OK {
			t.Fatalf("Rounds(%d, %v): %d, %d", b, readings, rounds, err)
		}
	}
	// Steps of a whole round and more are lost.
	for _, lost := range [][]int{{0, 16}, {16, 17}} {
		readings, _ := Readings(4, lost)
		if counts, err := Counts(4, readings); slices.Equal(counts, lost) || err != api.OK {
			t.Errorf("Counts(4, %v): %v, %d", readings, counts, err)
		}
	}
}

// TestCountersKeepArguments: R4.
func TestCountersKeepArguments(t *testing.T) {
	room := []int{3, 5, 9, 77}
	list := room[:3]
	for name, call := range map[string]func() ([]int, api.Errno){
		"Counts":   func() ([]int, api.Errno) { return Counts(4, list) },
		"Readings": func() ([]int, api.Errno) { return Readings(4, list) },
		"Steps":    func() ([]int, api.Errno) { return Steps(list) },
	} {
		l, err := call()
		if err != api.OK {
			t.Errorf("%s: %d", name, err)
		}
		for i := range l {
			l[i] = -5
		}
		_ = append(l, -5)
		if !slices.Equal(room, []int{3, 5, 9, 77}) {
			t.Errorf("%s changed its argument: %v", name, room)
		}
	}
}
