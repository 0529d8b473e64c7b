package desk

import (
	"slices"

	"orangebox/api"
	"orangebox/event"
	"orangebox/finding"
	"orangebox/layout"
	"orangebox/salvage"
)

// CheckCase returns what is wrong with a case.
func CheckCase(c api.Case) api.Errno {
	tracks, e := finding.Tracks(api.Book{Map: c.Map, Sources: c.Sources})
	if e != api.OK {
		return e
	}
	names, e := event.Tracks(c.Rules)
	if e != api.OK {
		return e
	}
	for _, name := range names {
		if event.TrackNumber(tracks, name) < 0 {
			return api.ErrNone
		}
	}
	return finding.CheckTwins(tracks, c.Twins)
}

// Record returns the frames of superframes with some values, the first one of which begins with a frame.
func Record(c api.Case, first int, l [][]int) ([]api.Frame, api.Errno) {
	if e := CheckCase(c); e != api.OK {
		return nil, e
	}
	if len(l) > MaxSupers {
		return nil, api.ErrSize
	}
	var frames []api.Frame
	for i, values := range l {
		super, e := layout.Build(c.Map, first+i*api.Super, values)
		if e != api.OK {
			return nil, e
		}
		frames = append(frames, super[:]...)
	}
	return frames, api.OK
}

// Read returns what is left of a case in pieces.
func Read(c api.Case, l []api.Piece) (api.Book, api.Errno) {
	if e := CheckCase(c); e != api.OK {
		return api.Book{}, e
	}
	rests, e := salvage.Salvage(l)
	if e != api.OK {
		return api.Book{}, e
	}
	m, _ := layout.Without(c.Map, nil) // a copy
	b := api.Book{Map: m, Sources: copySources(c.Sources), Rests: rests}
	if e := finding.CheckBook(b); e != api.OK {
		return api.Book{}, e
	}
	return b, api.OK
}

func copySources(l []api.Source) []api.Source {
	l = slices.Clone(l)
	for i := range l {
		l[i].Meaning = slices.Clone(l[i].Meaning)
		for k, c := range l[i].Meaning {
			l[i].Meaning[k].Lines = slices.Clone(c.Lines)
		}
	}
	return l
}
