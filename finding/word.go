package finding

import (
	"cmp"
	"maps"
	"slices"

	"orangebox/api"
	"orangebox/series"
)

const (
	maxWheres = api.Words * series.MaxRests // words of a list
	lastTick  = api.Ticks - 1               // of a frame, by which it is told what a track is in it
)

// Words returns the words on which tracks with some names rest in the frames from one to another one.
func Words(b api.Book, names []string, from, to int) ([]api.Where, api.Errno) {
	read, e := readBook(b)
	if e != api.OK {
		return nil, e
	}
	for _, name := range names {
		if !slices.ContainsFunc(b.Sources, func(s api.Source) bool { return s.Track == name }) {
			return nil, api.ErrNone
		}
	}
	if e := checkFrames(from, to, MaxFrames); e != api.OK {
		return nil, e
	}
	return read.with(names).words(from, to)
}

// Solid reports for words whether they are solid.
func Solid(b api.Book, l []api.Where) ([]bool, api.Errno) {
	read, e := readBook(b)
	if e != api.OK {
		return nil, e
	}
	if e := checkWords(l); e != api.OK {
		return nil, e
	}
	var solid []bool
	for _, w := range l {
		solid = append(solid, read.isSolid(w))
	}
	return solid, api.OK
}

// words wants frames without errors; what can be wrong is how long samples are held.
func (r reading) words(from, to int) ([]api.Where, api.Errno) {
	words := map[api.Where]bool{}
	for _, t := range r.tracks {
		earliest, latest := max(0, api.Ticks*from-t.Long+lastTick), api.Ticks*to+lastTick
		if api.Ticks*from-earliest > api.Ticks*MaxFrames {
			return nil, api.ErrSize
		}
		for i, x := range t.inWords() {
			if x.At < earliest || x.At > latest {
				continue
			}
			for _, w := range t.words(i) {
				words[w] = true
			}
		}
	}
	return sorted(words), api.OK
}

func checkWords(l []api.Where) api.Errno {
	if len(l) > maxWheres {
		return api.ErrSize
	}
	return checkWheres(l)
}

func checkWheres(l []api.Where) api.Errno {
	for _, w := range l {
		if !isWhere(w) {
			return api.ErrRange
		}
	}
	return api.OK
}

func isWhere(w api.Where) bool {
	return w.Number >= 0 && w.Number < api.Number && w.Word >= 0 && w.Word < api.Words
}

func compareWheres(a, b api.Where) int {
	return cmp.Or(cmp.Compare(a.Number, b.Number), cmp.Compare(a.Word, b.Word))
}

func sorted(words map[api.Where]bool) []api.Where {
	return slices.SortedFunc(maps.Keys(words), compareWheres)
}
