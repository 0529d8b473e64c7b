package event

import (
	"cmp"
	"slices"

	"orangebox/api"
	"orangebox/series"
)

// CheckTracks returns what is wrong with tracks.
func CheckTracks(l []api.Track) api.Errno {
	if len(l) > MaxTracks {
		return api.ErrSize
	}
	for i, t := range l {
		if !IsName(t.Name) {
			return api.ErrName
		}
		if TrackNumber(l[:i], t.Name) >= 0 {
			return api.ErrTwice
		}
		if e := series.Check(t.Series); e != api.OK {
			return e
		}
		if t.Long < 0 || t.Long > series.MaxAt {
			return api.ErrRange
		}
	}
	return api.OK
}

// Inputs returns what each track is in a frame.
func Inputs(l []api.Track, number int) ([]api.Told, api.Errno) {
	if e := CheckTracks(l); e != api.OK {
		return nil, e
	}
	if number < 0 || number >= api.Number {
		return nil, api.ErrRange
	}
	return each(l, func(t api.Track) api.Told { return ToldIn(t, number, 1)[0] }), api.OK
}

// TrackNumber returns the number of the track with a name, or -1.
func TrackNumber(l []api.Track, name string) int {
	return slices.IndexFunc(l, func(t api.Track) bool { return t.Name == name })
}

// ToldIn returns what a track is in so many frames, from one on.
func ToldIn(t api.Track, from, frames int) []api.Told {
	const last = api.Ticks - 1 // the tick of a frame by which it is told
	s, _ := series.Resample(t.Series, api.Ticks*from+last, api.Ticks, frames, t.Long)
	return each(s.Samples, func(x api.Sample) api.Told {
		return api.Told{N: x.N, Known: x.Mark != api.MarkLost}
	})
}

// Compare returns how a / denA compares with b / denB. It divides first, for a product of a and denB could be beyond an int.
func Compare(a, denA, b, denB int) int {
	return cmp.Or(cmp.Compare(a/denA, b/denB), cmp.Compare(a%denA*denB, b%denB*denA))
}

// Holds reports whether numbers that have an order compare so.
func Holds(op, order int) bool {
	switch op {
	case api.Less:
		return order < 0
	case api.AtMost:
		return order <= 0
	case api.Equal:
		return order == 0
	case api.Differs:
		return order != 0
	case api.AtLeast:
		return order >= 0
	}
	return order > 0
}
