package desk

import (
	"maps"
	"slices"

	"orangebox/api"
	"orangebox/finding"
	"orangebox/series"
)

const (
	secondTicks = api.Ticks * api.Second
	seconds     = api.Number / api.Second
)

// Show returns for each source what its track was in a second.
func Show(b api.Book, second int) ([]api.Shown, api.Errno) {
	tracks, e := finding.Tracks(b)
	if e != api.OK {
		return nil, e
	}
	if !isSecond(second) {
		return nil, api.ErrRange
	}
	var shown []api.Shown
	for _, t := range tracks {
		part, _ := series.Part(t.Series, secondTicks*second, secondTicks*(second+1))
		shown = append(shown, api.Shown{Track: t.Name, Samples: part.Samples})
	}
	return shown, api.OK
}

// Survives reports whether all that there was in a second is certain.
func Survives(b api.Book, second int) (bool, api.Errno) {
	survive, e := survivals(b)
	if e != api.OK {
		return false, e
	}
	if !isSecond(second) {
		return false, api.ErrRange
	}
	return survive[second], api.OK
}

// Seconds returns the seconds that survive.
func Seconds(b api.Book) ([]int, api.Errno) {
	survive, e := survivals(b)
	if e != api.OK {
		return nil, e
	}
	maps.DeleteFunc(survive, func(_ int, survives bool) bool { return !survives })
	return slices.Sorted(maps.Keys(survive)), api.OK
}

func isSecond(second int) bool {
	return second >= 0 && second < seconds
}

// survivals reports for each second that has samples whether it survives.
func survivals(b api.Book) (map[int]bool, api.Errno) {
	tracks, certain, e := finding.Certain(b)
	if e != api.OK {
		return nil, e
	}
	survive := map[int]bool{}
	for k, t := range tracks {
		for i, x := range t.Series.Samples {
			second := x.At / secondTicks
			before, some := survive[second]
			survive[second] = certain[k][i] && (before || !some)
		}
	}
	return survive, api.OK
}
