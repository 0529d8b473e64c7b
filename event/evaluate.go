package event

import (
	"iter"
	"slices"

	"orangebox/api"
)

// Evaluate returns, for each rule, its truths in the frames from one to another one.
func Evaluate(r api.Rules, l []api.Track, from, to int) ([][]int, api.Errno) {
	if e := checkRun(r, l, from, to); e != api.OK {
		return nil, e
	}
	truths := make([][]int, len(r.Rules))
	for found := range Run(r, l, from, to) {
		for i, truth := range found {
			truths[i] = append(truths[i], truth)
		}
	}
	return truths, api.OK
}

// Phases returns, for each frame, the phases that are possible.
func Phases(r api.Rules, l []api.Track, from, to int) ([][]string, api.Errno) {
	if e := checkRun(r, l, from, to); e != api.OK {
		return nil, e
	}
	var phases [][]string
	for _, w := range Run(r, l, from, to) {
		phases = append(phases, w.Phase())
	}
	return phases, api.OK
}

// Events returns the stretches of frames in which rules are true.
func Events(r api.Rules, l []api.Track, from, to int) ([]api.Event, api.Errno) {
	truths, e := Evaluate(r, l, from, to)
	if e != api.OK {
		return nil, e
	}
	var events []api.Event
	for rule := range truths {
		events = append(events, stretches(rule, truths[rule], from)...)
	}
	return events, api.OK
}

func checkRun(r api.Rules, l []api.Track, from, to int) api.Errno {
	if e := checkBoth(r, l); e != api.OK {
		return e
	}
	if from < 0 || from > to || to >= api.Number {
		return api.ErrRange
	}
	if to-from >= MaxSpan {
		return api.ErrSize
	}
	return api.OK
}

// Run yields the truths of the rules in each frame, and the watch that is behind this frame. It wants no errors, but that tracks can be missing: these are never known.
func Run(r api.Rules, l []api.Track, from, to int) iter.Seq2[[]int, *Watch] {
	return func(yield func([]int, *Watch) bool) {
		names := tracksOf(r)
		l = slices.DeleteFunc(slices.Clone(l), func(t api.Track) bool { return !slices.Contains(names, t.Name) })
		frames := to - from + 1
		told := each(l, func(t api.Track) []api.Told { return ToldIn(t, from, frames) })
		w := watchOf(r, l)
		for i := range frames {
			x := each(told, func(t []api.Told) api.Told { return t[i] })
			x = append(x, api.Told{}) // what all missing tracks are
			if !yield(w.next(x), w) {
				return
			}
		}
	}
}

// stretches returns the events of a rule with these truths, from a frame on.
func stretches(rule int, truths []int, from int) []api.Event {
	var events []api.Event
	first := 0
	for i, truth := range truths {
		if truth != api.True {
			first = i + 1
			continue
		}
		if i+1 < len(truths) && truths[i+1] == api.True {
			continue
		}
		events = append(events, api.Event{
			Rule: rule, From: from + first, To: from + i,
			Begins: first > 0 && truths[first-1] == api.False,
			Ends:   i+1 < len(truths) && truths[i+1] == api.False,
		})
	}
	return events
}
