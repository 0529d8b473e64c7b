package fleet

import (
	"orangebox/api"
	"orangebox/event"
	"orangebox/series"
)

// CheckFlight returns what is wrong with a flight.
func CheckFlight(f api.Flight) api.Errno {
	if f.Tail != "" && !event.IsName(f.Tail) || !event.IsName(f.Route) {
		return api.ErrName
	}
	if f.Day < 0 || f.Day > MaxDay || f.From < 0 || f.From > f.To || f.To >= api.Number {
		return api.ErrRange
	}
	if f.To-f.From >= MaxFrames || len(f.Tracks) > MaxTracks {
		return api.ErrSize
	}
	return event.CheckTracks(f.Tracks)
}

// Peak returns the greatest number that a track surely had in a flight.
func Peak(f api.Flight, track string) (int, bool, api.Errno) {
	if e := CheckFlight(f); e != api.OK {
		return 0, false, e
	}
	if !event.IsName(track) {
		return 0, false, api.ErrName
	}
	p, ok := peakOf(f, track)
	return p.n, ok, api.OK
}

func checkFlights(l []api.Flight) api.Errno {
	if len(l) > MaxFlights {
		return api.ErrSize
	}
	for _, f := range l {
		if e := CheckFlight(f); e != api.OK {
			return e
		}
	}
	return api.OK
}

// peakOf is like Peak, without errors.
func peakOf(f api.Flight, track string) (peak, bool) {
	i := event.TrackNumber(f.Tracks, track)
	if i < 0 {
		return peak{}, false
	}
	s := f.Tracks[i].Series
	flown, _ := series.Part(s, api.Ticks*f.From, api.Ticks*(f.To+1))
	_, greatest, e := series.Range(flown)
	return peak{n: greatest, den: s.Den}, e == api.OK
}
