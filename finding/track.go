package finding

import (
	"slices"

	"orangebox/api"
	"orangebox/layout"
	"orangebox/series"
)

const versionWord = 3 // it belongs to the words of each cell in its frame

// track is a track of a book, with the words in which its samples lie.
type track struct {
	api.Track
	first int           // the frame with which the superframe of the first samples begins
	cells [][]api.Where // for each cell of a superframe its words; their numbers are those of frames in it
}

// trackOf wants a book without errors, but for the number of samples.
func trackOf(b api.Book, s api.Source) (track, api.Errno) {
	p := b.Map.Params[paramNumber(b.Map.Params, s.Param)]
	made, e := series.FromRising(b.Map.Version, p, b.Rests)
	if e != api.OK {
		return track{}, e
	}
	for _, c := range s.Meaning {
		made, _ = series.Calibrate(made, c)
	}
	t := track{Track: api.Track{Name: s.Track, Series: made, Long: s.Long}}
	if len(b.Rests) > 0 {
		t.first = b.Rests[0].Number - b.Rests[0].Number%api.Super
	}
	cells, _ := layout.Cells(api.Map{Params: []api.Param{p}})
	for _, c := range cells {
		t.cells = append(t.cells, cellWords(c))
	}
	return t, api.OK
}

func cellWords(c api.Cell) []api.Where {
	words := map[api.Where]bool{}
	for _, place := range c.Places {
		words[api.Where{Number: place.Frame, Word: place.Word}] = true
		words[api.Where{Number: place.Frame, Word: versionWord}] = true
	}
	return sorted(words)
}

// inWords returns the samples that lie in words: all but the last one, which only says that nothing is known from there on.
func (t track) inWords() []api.Sample {
	return t.Series.Samples[:max(0, len(t.Series.Samples)-1)]
}

// words returns the words of the sample with a number.
func (t track) words(sample int) []api.Where {
	words := slices.Clone(t.cells[sample%len(t.cells)])
	for i := range words {
		words[i].Number += t.first + sample/len(t.cells)*api.Super
	}
	return words
}

// only returns the track of which all samples are lost that lie in other words, too.
func (t track) only(left map[api.Where]bool) api.Track {
	some := t.Track
	some.Series.Samples = slices.Clone(t.Series.Samples)
	for i, x := range t.inWords() {
		if !areLeft(t.words(i), left) {
			some.Series.Samples[i] = api.Sample{At: x.At, Mark: api.MarkLost}
		}
	}
	return some
}

// certain reports for each sample whether it is solid, or wrong with words that are all solid. The last one lies in no words.
func (t track) certain(isSolid func(api.Where) bool) []bool {
	l := make([]bool, len(t.Series.Samples))
	for i, x := range t.inWords() {
		l[i] = x.Mark >= api.MarkMended || x.Mark == api.MarkWrong && !slices.ContainsFunc(t.words(i), func(w api.Where) bool { return !isSolid(w) })
	}
	return l
}

// within returns the frames, from one to another one, that a sample is held in; the first one is above the last one if there is none.
func (t track) within(sample, first, last int) (from, to int) {
	x := t.Series.Samples[sample]
	behind := min(x.At+t.Long+1, t.Series.Samples[sample+1].At) // it is held before this time
	return max(first, x.At/api.Ticks), min(last, behind/api.Ticks-1)
}
