// Package tick is layer 1: counters that go round and clocks that drift. It is
// specified by chapter doc/01-tick.md.
package tick

import "firn/api"

// minBits is the least number of bits of a counter.
const minBits = 4

// maxCount is the greatest count.
const maxCount = 1 << 40

func validBits(b int) bool {
	return minBits <= b && b <= api.MaxBits
}

// ValidReadings reports whether a list is one of readings of a counter of b bits.
func ValidReadings(b int, readings []int) bool {
	if !validBits(b) || len(readings) < 1 || len(readings) > api.MaxRead {
		return false
	}
	for _, r := range readings {
		if r < 0 || r >= 1<<b {
			return false
		}
	}
	return true
}

// ValidCounts reports whether a list is one of counts.
func ValidCounts(counts []int) bool {
	if len(counts) < 1 || len(counts) > api.MaxRead {
		return false
	}
	least := 0
	for _, n := range counts {
		if n < least || n > maxCount {
			return false
		}
		least = n
	}
	return true
}

// Counts returns the counts of readings.
func Counts(b int, readings []int) ([]int, api.Errno) {
	if !validBits(b) {
		return nil, api.ErrArg
	}
	if !ValidReadings(b, readings) {
		return nil, api.ErrCounts
	}
	round := 1 << b
	counts := make([]int, 0, len(readings))
	last := 0
	for _, r := range readings {
		// What is missing to the reading, going up only. The first count starts
		// from 0, so that it is the reading itself.
		last += (r - last%round + round) % round
		counts = append(counts, last)
	}
	return counts, api.OK
}

// Readings returns the readings of counts.
func Readings(b int, counts []int) ([]int, api.Errno) {
	if !validBits(b) {
		return nil, api.ErrArg
	}
	if !ValidCounts(counts) {
		return nil, api.ErrCounts
	}
	round := 1 << b
	readings := make([]int, 0, len(counts))
	for _, n := range counts {
		readings = append(readings, n%round)
	}
	return readings, api.OK
}

// Rounds returns how often the counter of readings went round.
func Rounds(b int, readings []int) (int, api.Errno) {
	counts, err := Counts(b, readings)
	if err != api.OK {
		return 0, err
	}
	return counts[len(counts)-1] >> b, api.OK
}

// Steps returns by how much each count but the first is more than the one in front of it.
func Steps(counts []int) ([]int, api.Errno) {
	if !ValidCounts(counts) {
		return nil, api.ErrCounts
	}
	steps := make([]int, 0, len(counts)-1)
	for i, n := range counts[1:] {
		steps = append(steps, n-counts[i])
	}
	return steps, api.OK
}
