package fleet

import (
	"slices"

	"orangebox/api"
	"orangebox/event"
	"orangebox/series"
)

// CheckMask returns what is wrong with a mask.
func CheckMask(m api.Mask) api.Errno {
	if m.Days < 1 || m.Days > MaxDay {
		return api.ErrRange
	}
	if e := checkHidden(m.Hide); e != api.OK {
		return e
	}
	if e := checkGrains(m.Grains); e != api.OK {
		return e
	}
	if !isLeast(m.Least) {
		return api.ErrRange
	}
	return api.OK
}

// Masked returns what may be told of a flight.
func Masked(f api.Flight, m api.Mask) (api.Flight, api.Errno) {
	if e := CheckFlight(f); e != api.OK {
		return api.Flight{}, e
	}
	if e := CheckMask(m); e != api.OK {
		return api.Flight{}, e
	}
	return masked(f, m), api.OK
}

func checkHidden(names []string) api.Errno {
	if len(names) > MaxTracks {
		return api.ErrSize
	}
	for i, name := range names {
		if !event.IsName(name) {
			return api.ErrName
		}
		if slices.Contains(names[:i], name) {
			return api.ErrTwice
		}
	}
	return api.OK
}

func checkGrains(l []api.Grain) api.Errno {
	if len(l) > MaxTracks {
		return api.ErrSize
	}
	for i, g := range l {
		if !event.IsName(g.Track) {
			return api.ErrName
		}
		if grainNumber(l[:i], g.Track) >= 0 {
			return api.ErrTwice
		}
		if g.N < 1 || g.N > series.MaxN {
			return api.ErrRange
		}
	}
	return api.OK
}

// grainNumber returns the number of the grain of a track, or -1.
func grainNumber(l []api.Grain, track string) int {
	return slices.IndexFunc(l, func(g api.Grain) bool { return g.Track == track })
}

func isLeast(least int) bool {
	return least >= 1 && least <= MaxLeast
}

// masked is like Masked, without errors.
func masked(f api.Flight, m api.Mask) api.Flight {
	if m.Tails {
		f.Tail = ""
	}
	f.Day = coarse(f.Day, m.Days)
	var told []api.Track
	for _, t := range f.Tracks {
		if !slices.Contains(m.Hide, t.Name) {
			told = append(told, maskedTrack(t, m.Grains))
		}
	}
	f.Tracks = told
	return f
}

func maskedTrack(t api.Track, grains []api.Grain) api.Track {
	t.Series.Samples = slices.Clone(t.Series.Samples)
	i := grainNumber(grains, t.Name)
	if i < 0 {
		return t
	}
	for k, x := range t.Series.Samples {
		if x.Mark >= api.MarkDoubtful {
			t.Series.Samples[k].N = max(coarse(x.N, grains[i].N), -series.MaxN)
		}
	}
	return t
}

// coarse returns the greatest multiple of a step that is not above a number.
func coarse(n, step int) int {
	return series.Floor(n, step) * step
}
