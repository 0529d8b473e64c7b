package fleet

import (
	"slices"

	"orangebox/api"
	"orangebox/event"
)

// Events returns for each rule the number of its events in a flight.
func Events(f api.Flight, r api.Rules) ([]int, api.Errno) {
	if e := checkRuled(f, r); e != api.OK {
		return nil, e
	}
	return eventsOf(f, r), api.OK
}

// Exceed returns for each rule, and within it for each phase, in how many frames the rule is true and the phase is certain.
func Exceed(f api.Flight, r api.Rules) ([][]int, api.Errno) {
	if e := checkRuled(f, r); e != api.OK {
		return nil, e
	}
	var frames [][]int
	for range r.Rules {
		frames = append(frames, make([]int, len(r.Phases)))
	}
	for truths, w := range event.Run(r, f.Tracks, f.From, f.To) {
		possible := w.Phase()
		if len(possible) != 1 {
			continue
		}
		phase := slices.Index(r.Phases, possible[0])
		for i, truth := range truths {
			if truth == api.True {
				frames[i][phase]++
			}
		}
	}
	return frames, api.OK
}

func checkRuled(f api.Flight, r api.Rules) api.Errno {
	if e := CheckFlight(f); e != api.OK {
		return e
	}
	return event.Check(r)
}

// eventsOf is like Events, without errors. It counts events where they begin.
func eventsOf(f api.Flight, r api.Rules) []int {
	counts := make([]int, len(r.Rules))
	holds := make([]bool, len(r.Rules))
	for truths := range event.Run(r, f.Tracks, f.From, f.To) {
		for i, truth := range truths {
			if truth == api.True && !holds[i] {
				counts[i]++
			}
			holds[i] = truth == api.True
		}
	}
	return counts
}
