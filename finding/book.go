package finding

import (
	"slices"
	"sort"

	"orangebox/api"
	"orangebox/event"
	"orangebox/layout"
	"orangebox/salvage"
	"orangebox/series"
)

// reading is what is made of a book without errors.
type reading struct {
	rests  []api.Rest
	tracks []track
}

// CheckBook returns what is wrong with a book.
func CheckBook(b api.Book) api.Errno {
	_, e := readBook(b)
	return e
}

// Tracks returns the tracks of a book.
func Tracks(b api.Book) ([]api.Track, api.Errno) {
	read, e := readBook(b)
	if e != api.OK {
		return nil, e
	}
	return read.plain(), api.OK
}

// Certain returns the tracks of a book, and for each sample of each of them whether it is solid, or wrong with words that are all solid.
func Certain(b api.Book) ([]api.Track, [][]bool, api.Errno) {
	read, e := readBook(b)
	if e != api.OK {
		return nil, nil, e
	}
	var certain [][]bool
	for _, t := range read.tracks {
		certain = append(certain, t.certain(read.isSolid))
	}
	return read.plain(), certain, api.OK
}

// Only returns the tracks that there are if all words but some are lost.
func Only(b api.Book, l []api.Where) ([]api.Track, api.Errno) {
	read, e := readBook(b)
	if e != api.OK {
		return nil, e
	}
	if e := checkWords(l); e != api.OK {
		return nil, e
	}
	left := setOf(l)
	var tracks []api.Track
	for _, t := range read.tracks {
		tracks = append(tracks, t.only(left))
	}
	return tracks, api.OK
}

// readBook returns what is made of a book, or what is wrong with it.
func readBook(b api.Book) (reading, api.Errno) {
	if _, e := layout.Check(b.Map); e != api.OK {
		return reading{}, e
	}
	if e := checkSources(b.Sources, b.Map.Params); e != api.OK {
		return reading{}, e
	}
	if len(b.Rests) > series.MaxRests {
		return reading{}, api.ErrSize
	}
	if e := salvage.CheckRising(b.Rests); e != api.OK {
		return reading{}, e
	}
	read := reading{rests: b.Rests}
	for _, s := range b.Sources {
		t, e := trackOf(b, s)
		if e != api.OK {
			return reading{}, e
		}
		read.tracks = append(read.tracks, t)
	}
	return read, api.OK
}

func checkSources(l []api.Source, params []api.Param) api.Errno {
	if len(l) > MaxSources {
		return api.ErrSize
	}
	for i, s := range l {
		if !event.IsName(s.Track) {
			return api.ErrName
		}
		if slices.ContainsFunc(l[:i], func(x api.Source) bool { return x.Track == s.Track }) {
			return api.ErrTwice
		}
		if paramNumber(params, s.Param) < 0 {
			return api.ErrNone
		}
		if e := CheckMeaning(s); e != api.OK {
			return e
		}
	}
	return api.OK
}

// CheckMeaning returns what is wrong with a source but for its names.
func CheckMeaning(s api.Source) api.Errno {
	if len(s.Meaning) > 1 {
		return api.ErrForm
	}
	for _, c := range s.Meaning {
		if e := series.CheckCalibration(c); e != api.OK {
			return e
		}
	}
	if s.Long < 0 || s.Long > series.MaxAt {
		return api.ErrRange
	}
	return api.OK
}

// paramNumber returns the number of the parameter with a name, or -1.
func paramNumber(l []api.Param, name string) int {
	return slices.IndexFunc(l, func(p api.Param) bool { return p.Name == name })
}

// plain returns the tracks without the words on which they rest.
func (r reading) plain() []api.Track {
	var l []api.Track
	for _, t := range r.tracks {
		l = append(l, t.Track)
	}
	return l
}

// with returns what is made of the same rests, but only the tracks with some names.
func (r reading) with(names []string) reading {
	some := reading{rests: r.rests}
	for _, t := range r.tracks {
		if slices.Contains(names, t.Name) {
			some.tracks = append(some.tracks, t)
		}
	}
	return some
}

// rest returns the rest of the frame with a number, if there is one.
func (r reading) rest(number int) (*api.Rest, bool) {
	i := sort.Search(len(r.rests), func(i int) bool { return r.rests[i].Number >= number })
	if i == len(r.rests) || r.rests[i].Number != number {
		return nil, false
	}
	return &r.rests[i], true
}

// state returns the state of a word; one of a frame without a rest is lost.
func (r reading) state(w api.Where) int {
	rest, ok := r.rest(w.Number)
	if !ok {
		return api.WordLost
	}
	return rest.States[w.Word]
}

func (r reading) isSolid(w api.Where) bool {
	return r.state(w) >= api.WordMended
}
