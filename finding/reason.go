package finding

import (
	"orangebox/api"
	"orangebox/event"
)

// Reasons returns spots that are enough for the truth of a rule, and this truth.
func Reasons(r api.Rules, l []api.Track, rule string, first, number int) ([]api.Spot, int, api.Errno) {
	if e := checkRule(r, l, rule, first, number); e != api.OK {
		return nil, api.Unknown, e
	}
	q := question[api.Spot]{frames: number - first + 1, tracks: len(l), known: spotsOf(l, first, number)}
	q.watch, _ = event.New(partOf(r, rule), l)
	var spots []api.Spot
	for _, x := range q.known {
		spots = append(spots, x.on...)
	}
	truth := q.truth(setOf(spots))
	if truth == api.Unknown {
		return nil, api.Unknown, api.ErrState
	}
	if len(spots) > MaxSpots {
		return nil, api.Unknown, api.ErrSize
	}
	return fewest(spots, q.has(truth)), truth, api.OK
}

// spotsOf returns what tracks are known to be, by number and then in their order. Each spot rests on itself.
func spotsOf(l []api.Track, first, number int) []known[api.Spot] {
	frames := number - first + 1
	var told [][]api.Told
	for _, t := range l {
		told = append(told, event.ToldIn(t, first, frames))
	}
	var spots []known[api.Spot]
	for i := range frames {
		for k, t := range l {
			if x := told[k][i]; x.Known {
				spots = append(spots, known[api.Spot]{track: k, from: i, to: i, n: x.N, on: []api.Spot{{Track: t.Name, Number: first + i}}})
			}
		}
	}
	return spots
}
