package finding_test

import (
	"fmt"
	"slices"
	"testing"

	"orangebox/api"
	"orangebox/finding"
	"orangebox/series"
)

type wrong struct {
	book  api.Book
	errno api.Errno
}

// wrongBooks has books with errors, most of them with further ones that are asked for later.
func wrongBooks(t *testing.T) map[string]wrong {
	t.Helper()
	b := climb(t, 16, 4)
	unsound := b.Rests[1]
	unsound.Sound = false
	books := map[string]wrong{
		"the map":                           {api.Book{Map: api.Map{Version: 2048}, Sources: many(31, func(int) api.Source { return source("", "", -1) })}, api.ErrRange},
		"a parameter of the map":            {api.Book{Map: api.Map{Params: []api.Param{{Name: "A"}}}}, api.ErrName},
		"too many sources":                  {withSources(b, many(31, func(int) api.Source { return source("", "", -1) })...), api.ErrSize},
		"a track twice":                     {withSources(b, source("alt", "a", 0), source("low", "a", 0), source("alt", "x", -1)), api.ErrTwice},
		"no parameter":                      {withSources(b, meaning(source("alt", "x", -1), 2)), api.ErrNone},
		"a track for a parameter":           {withSources(b, source("a", "alt", 0)), api.ErrNone},
		"two meanings":                      {withSources(b, meaning(source("alt", "a", -1), 2)), api.ErrForm},
		"a meaning":                         {withSources(b, meaning(source("alt", "a", -1), 1)), api.ErrEmpty},
		"a negative Long":                   {withSources(b, source("alt", "a", -1), source("", "a", 0)), api.ErrRange},
		"a Long beyond":                     {withSources(b, source("alt", "a", series.MaxAt+1)), api.ErrRange},
		"a source, then the rests":          {withRests(withSources(b, source("alt", "a", -1)), make([]api.Rest, 5001)...), api.ErrRange},
		"the first source, then the second": {withSources(b, source("alt", "a", -1), source("low", "x", 0)), api.ErrRange},
		"too many rests":                    {withRests(b, make([]api.Rest, 5001)...), api.ErrSize},
		"too many rests without sources":    {withRests(api.Book{}, make([]api.Rest, 5001)...), api.ErrSize},
		"a rest":                            {withRests(b, b.Rests[2], unsound, b.Rests[0]), api.ErrForm},
		"a number beyond":                   {withRests(b, b.Rests[2], b.Rests[1], api.Rest{Number: api.Number}), api.ErrRange},
		"a rest without sources":            {withRests(api.Book{}, unsound), api.ErrForm},
		"equal numbers":                     {withRests(b, b.Rests[0], b.Rests[0]), api.ErrOrder},
		"falling numbers":                   {withRests(api.Book{}, b.Rests[1], b.Rests[0]), api.ErrOrder},
		"order, then samples":               {withRests(b, sound(holding(t, 0)), sound(holding(t, 16*1249)), b.Rests[0]), api.ErrOrder},
		"too many samples":                  {withRests(b, sound(holding(t, 15)), sound(holding(t, 16*1249))), api.ErrSize},
	}
	for _, name := range wrongNames() {
		books[fmt.Sprintf("the track %q", name)] = wrong{withSources(b, source("low", "a", 0), meaning(source(name, "x", -1), 2)), api.ErrName}
	}
	for _, n := range beyond() {
		books[fmt.Sprint("Long ", n)] = wrong{withSources(b, source("alt", "a", n)), api.ErrRange}
	}
	return books
}

func withSources(b api.Book, l ...api.Source) api.Book {
	b.Sources = l
	return b
}

func withRests(b api.Book, l ...api.Rest) api.Book {
	b.Rests = l
	return b
}

// meaning is a source with some calibrations, which have errors.
func meaning(s api.Source, count int) api.Source {
	s.Meaning = many(count, func(int) api.Calibration { return api.Calibration{Den: 1} })
	return s
}

// G1: the errors of books in their order, and what is no error.
func TestCheckBook(t *testing.T) {
	for name, c := range wrongBooks(t) {
		wantErrno(t, name, finding.CheckBook(c.book), c.errno)
	}
	b := climb(t, 16, 4)
	thirty := many(30, func(i int) api.Source { return source(numbered("t", i), "a", i) })
	full := many(series.MaxRests, func(i int) api.Rest { return api.Rest{Number: i} })
	for name, c := range map[string]api.Book{
		"zero":               {},
		"frames":             b,
		"30 sources":         withSources(b, thirty...),
		"the longest Long":   withSources(b, source("alt", "a", series.MaxAt)),
		"5000 rests":         withRests(b, full...),
		"all samples":        withRests(b, sound(holding(t, 15)), sound(holding(t, 16*1248))),
		"no rests":           withRests(b),
		"far apart, unasked": withRests(withSources(b), sound(holding(t, 0)), sound(holding(t, api.Number-1))),
	} {
		wantErrno(t, name, finding.CheckBook(c), api.OK)
	}
}

// G1 to G4, G6: all functions with books return first what is wrong with the book.
func TestWrongBooks(t *testing.T) {
	r := wrongRules()
	for name, c := range wrongBooks(t) {
		for function, l := range map[string][]any{
			"Tracks":       results(finding.Tracks(c.book)),
			"Certain":      results(finding.Certain(c.book)),
			"Only":         results(finding.Only(c.book, []api.Where{{Number: -1}})),
			"Words":        results(finding.Words(c.book, []string{"none"}, -1, -2)),
			"Solid":        results(finding.Solid(c.book, []api.Where{{Number: -1}})),
			"Truth":        results(finding.Truth(c.book, r, "none", -1, -2)),
			"Evidence":     results(finding.Evidence(c.book, r, "none", -1, -2)),
			"CheckFinding": results(finding.CheckFinding(c.book, r, api.Finding{})),
			"Missing":      results(finding.Missing(c.book, r, "none", -1, -2)),
			"Find":         results(finding.Find(c.book, r, -1, -2)),
			"Order":        results(finding.Order(c.book, make([]api.Finding, 501))),
			"Tell":         results(finding.Tell(c.book, api.Finding{})),
			"TellAll":      results(finding.TellAll(c.book, nil)),
		} {
			wantWrong(t, function+" with "+name, l, c.errno)
		}
	}
}

// G1: a track is what FromRests and Calibrate make, with the Long of the source.
func TestTracks(t *testing.T) {
	b := climb(t, 3, 2)
	b.Rests[1] = mended(b.Rests[1], 4)
	b.Sources = []api.Source{source("low", "b", 7), source("alt", "a", 63)}
	b.Sources[0].Meaning = []api.Calibration{line(10, 0, 96, 3, -1)}
	lows, alts := []api.Sample{}, []api.Sample{}
	for i := range 17 {
		lows, alts = append(lows, lost(64*i)), append(alts, lost(64*i))
	}
	lows[3], alts[3] = api.Sample{At: 192, Mark: api.MarkWrong}, good(192, 3)
	lows[4], alts[4] = good(256, 3*96-1), api.Sample{At: 256, N: 4, Mark: api.MarkMended}
	wantSame(t, "Tracks", tracksOf(t, b), []api.Track{track("low", 10, 7, lows...), track("alt", 1, 63, alts...)})
	wantSame(t, "no sources", tracksOf(t, withSources(b)), []api.Track(nil))
	wantSame(t, "no rests", fmt.Sprint(tracksOf(t, withRests(b))), fmt.Sprint([]api.Track{track("low", 10, 7), track("alt", 1, 63)}))
	r := dice(1)
	for range 40 {
		b := someBook(t, r)
		wantSame(t, "by chance", fmt.Sprint(tracksOf(t, b)), fmt.Sprint(plainTracks(t, b, all)))
		for i, x := range tracksOf(t, b) {
			s, e := series.FromRests(b.Map, b.Sources[i].Param, b.Rests)
			wantErrno(t, "FromRests", e, api.OK)
			if len(b.Sources[i].Meaning) > 0 {
				s, e = series.Calibrate(s, b.Sources[i].Meaning[0])
				wantErrno(t, "Calibrate", e, api.OK)
			}
			wantSame(t, "by chance", x, api.Track{Name: b.Sources[i].Track, Series: s, Long: b.Sources[i].Long})
		}
	}
}

// G1: Certain has the tracks, and what of them is solid, or wrong with words that are all solid.
func TestCertain(t *testing.T) {
	r := dice(13)
	counts := map[string]int{}
	for range 60 {
		b := someBook(t, r)
		tracks, certain, e := finding.Certain(b)
		wantErrno(t, "Certain", e, api.OK)
		wantSame(t, "tracks", fmt.Sprint(tracks), fmt.Sprint(tracksOf(t, b)))
		for i, s := range b.Sources {
			var want []bool
			eachCell(t, b, s, func(_ api.Param, c api.Cell, first, _ int) {
				mark := tracks[i].Series.Samples[len(want)].Mark
				is := mark >= api.MarkMended || mark == api.MarkWrong && !slices.ContainsFunc(cellWords(c, first), func(w api.Where) bool { return !plainSolid(b, w) })
				counts[fmt.Sprint(mark, is)]++
				want = append(want, is)
			})
			if len(b.Rests) > 0 {
				want = append(want, false) // the sample behind all others
			}
			wantSame(t, "certain", certain[i], want)
		}
	}
	for _, kind := range []string{"0 false", "1 false", "1 true", "2 false", "3 true", "4 true"} {
		if counts[kind] == 0 {
			t.Errorf("no sample is %s", kind)
		}
	}
}

// G1: a sample stays as it is if all of its words are in the list, in any order, and is lost otherwise.
func TestOnly(t *testing.T) {
	b := climb(t, 0, 16)
	b.Rests[5] = mended(b.Rests[5], 4)
	b.Rests[6] = doubtful(b.Rests[6])
	b = without(b, 9)
	l := []api.Where{{Number: 9, Word: 4}, {Number: 9, Word: 3}, {Number: 7, Word: 4}, {Number: 7, Word: 5}, {Number: 8, Word: 3}}
	l = append(l, wordsOf(5, 6, 4, 3, 4)...)
	l = append(l, api.Where{Number: 3, Word: 3}, api.Where{Number: 3, Word: 5}, api.Where{Number: 3, Word: 0}, api.Where{Number: api.Number - 1, Word: 63})
	alts, lows := []api.Sample{}, []api.Sample{}
	for i := range 17 {
		alts, lows = append(alts, lost(64*i)), append(lows, lost(64*i))
	}
	alts[5], alts[6] = api.Sample{At: 320, N: 5, Mark: api.MarkMended}, api.Sample{At: 384, N: 6, Mark: api.MarkDoubtful}
	lows[3] = good(192, 97)
	wantSame(t, "Only", onlyOf(t, b, l...), []api.Track{track("alt", 1, 63, alts...), track("low", 1, 63, lows...)})
	wantSame(t, "all", onlyOf(t, b, wordsOf(0, 15, 3, 4, 5)...), tracksOf(t, b))
	none := onlyOf(t, b)
	for _, x := range slices.Concat(none[0].Series.Samples, none[1].Series.Samples) {
		wantSame(t, "nothing left", x, lost(x.At))
	}
	r := dice(2)
	for range 60 {
		b := someBook(t, r)
		var l []api.Where
		for _, w := range plainWords(t, b, []string{"a", "b", "c", "d", "e"}, 0, 100) {
			if r.IntN(5) > 0 {
				l = append(l, w)
			}
		}
		r.Shuffle(len(l), func(i, k int) { l[i], l[k] = l[k], l[i] })
		wantSame(t, "by chance", fmt.Sprint(onlyOf(t, b, l...)), fmt.Sprint(plainTracks(t, b, inList(l))))
	}
}

// wrongWheres has words that there can never be.
func wrongWheres() []api.Where {
	l := []api.Where{{Number: -1}, {Number: api.Number}, {Word: -1}, {Word: 64}}
	for _, n := range beyond() {
		l = append(l, api.Where{Number: n}, api.Where{Word: n})
	}
	return l
}

// G1: the errors of lists of words, and what is no error.
func TestWordLists(t *testing.T) {
	b := climb(t, 0, 2)
	for _, w := range wrongWheres() {
		l := []api.Where{{}, {Number: api.Number - 1, Word: 63}, w}
		wantWrong(t, fmt.Sprint("Only ", w), results(finding.Only(b, l)), api.ErrRange)
		wantWrong(t, fmt.Sprint("Solid ", w), results(finding.Solid(b, l)), api.ErrRange)
	}
	long := make([]api.Where, 64*series.MaxRests+1)
	long[0].Word = 64
	wantWrong(t, "Only too many", results(finding.Only(b, long)), api.ErrSize)
	wantWrong(t, "Solid too many", results(finding.Solid(b, long)), api.ErrSize)
	wantSame(t, "Only of as many as there can be", onlyOf(t, b, long[1:]...), onlyOf(t, b))
	solid := solidOf(t, b, long[1:]...)
	if len(solid) != 64*series.MaxRests || slices.Contains(solid, false) {
		t.Error("Solid of as many as there can be")
	}
}

// G1: words that are good or mended are solid, also if no parameter lies in them.
func TestSolid(t *testing.T) {
	b := climb(t, 4, 4)
	b.Rests[1] = mended(b.Rests[1], 9)
	b.Rests[2] = doubtful(b.Rests[2], 9)
	b = without(b, 7)
	l := []api.Where{{Number: 4, Word: 9}, {Number: 5, Word: 9}, {Number: 5}, {Number: 6, Word: 9}, {Number: 6, Word: 4}, {Number: 7, Word: 4}, {Number: 3, Word: 4}, {Number: 8, Word: 4}, {Number: 4, Word: 9}}
	wantSame(t, "Solid", solidOf(t, b, l...), []bool{true, true, true, false, false, false, false, false, true})
	wantSame(t, "Solid of nothing", solidOf(t, b), []bool(nil))
	wantSame(t, "Solid without rests", solidOf(t, withRests(b), l[0]), []bool{false})
}

// G1: the words of all samples that are held in one of the frames, or could be.
func TestWords(t *testing.T) {
	b := climb(t, 4, 20)
	for name, c := range map[string]struct {
		names          []string
		long, from, to int
		want           []api.Where
	}{
		"one frame":                   {[]string{"alt"}, 63, 10, 10, wordsOf(10, 10, 3, 4)},
		"two tracks":                  {[]string{"low", "alt", "low"}, 63, 10, 11, wordsOf(10, 11, 3, 4, 5)},
		"not held as far":             {[]string{"alt"}, 62, 10, 10, nil},
		"held up to the next one":     {[]string{"alt"}, 126, 10, 10, wordsOf(10, 10, 3, 4)},
		"held as far as the next one": {[]string{"alt"}, 127, 10, 10, wordsOf(9, 10, 3, 4)},
		"several frames":              {[]string{"alt"}, 62, 10, 12, wordsOf(11, 12, 3, 4)},
		"without rests, beside them":  {[]string{"alt"}, 63, 0, 3, wordsOf(0, 3, 3, 4)},
		"up to the superframe":        {[]string{"alt"}, 63, 30, 40, wordsOf(30, 31, 3, 4)},
		"behind them all":             {[]string{"alt"}, 63, 32, 40, nil},
		"behind them all, but held":   {[]string{"alt"}, 640, 33, 33, wordsOf(24, 31, 3, 4)},
		"no names":                    {nil, 63, 10, 11, nil},
		"from the beginning":          {[]string{"alt"}, series.MaxAt, 3, 5, wordsOf(0, 5, 3, 4)},
	} {
		b.Sources[0].Long = c.long
		wantSame(t, name, wordsFor(t, b, c.from, c.to, c.names...), c.want)
	}
	wantSame(t, "no rests", wordsFor(t, withRests(b), 0, 9, "alt"), []api.Where(nil))
	late := withSources(withRests(b, sound(holding(t, 3200))), source("alt", "a", 63))
	wantSame(t, "superframes ahead of the first rest", wordsFor(t, late, 3190, 3202, "alt"), wordsOf(3200, 3202, 3, 4))
	r := dice(3)
	for range 200 {
		b := someBook(t, r)
		names := many(1+r.IntN(3), func(int) string { return pick(r, "a", "b", "c", "d", "e") })
		from := r.IntN(100)
		to := from + r.IntN(30)
		wantSame(t, "by chance", wordsFor(t, b, from, to, names...), plainWords(t, b, names, from, to))
	}
}

// G1: words of a cell lie in several frames, of which each one has a word for its version; all samples of a frame count.
func TestWordsOfCells(t *testing.T) {
	b := climb(t, 0, 16)
	b.Map.Params = []api.Param{
		{Name: "a", Kind: api.Unsigned, Parts: []api.Part{{Frame: 2, Word: 9, Bits: 3}, {Word: 30, Bits: 2}, {Word: 30, Low: 4, Bits: 2}}, First: 1, Every: 8, Times: 1},
		{Name: "b", Kind: api.Unsigned, Parts: []api.Part{{Word: 4, Bits: 3}}, First: 3, Every: 16, Times: 3, Step: 7},
	}
	alt := []api.Where{{Number: 9, Word: 3}, {Number: 9, Word: 30}, {Number: 11, Word: 3}, {Number: 11, Word: 9}}
	wantSame(t, "frames", wordsFor(t, b, 9, 9, "alt"), alt)
	wantSame(t, "behind its beginning", wordsFor(t, b, 10, 11, "alt"), []api.Where(nil))
	low := []api.Where{{Number: 3, Word: 3}, {Number: 3, Word: 4}, {Number: 3, Word: 11}, {Number: 3, Word: 18}}
	wantSame(t, "three", wordsFor(t, b, 3, 3, "low"), low)
	b.Sources[1].Long = 42
	wantSame(t, "those that can be held so far", wordsFor(t, b, 3, 3, "low"), []api.Where{low[0], low[2], low[3]})
	wantSame(t, "all ahead of the next frame", wordsFor(t, b, 2, 3, "low"), low)
}

// G1: the errors of Words in their order.
func TestWrongWords(t *testing.T) {
	b := climb(t, 0, 2)
	b.Sources = append(b.Sources, source("long", "a", 128063), source("longer", "a", 128064), source("longest", "a", series.MaxAt))
	for name, c := range map[string]struct {
		names    []string
		from, to int
		want     api.Errno
	}{
		"no track":              {[]string{"alt", "a"}, -1, 0, api.ErrNone},
		"an empty name":         {[]string{""}, 0, 0, api.ErrNone},
		"negative":              {[]string{"alt"}, -1, 0, api.ErrRange},
		"from above to":         {nil, 6, 5, api.ErrRange},
		"to beyond":             {nil, 0, api.Number, api.ErrRange},
		"the last frame":        {nil, api.Number - 1, api.Number - 1, api.OK},
		"2000 frames":           {[]string{"alt"}, 5, 2004, api.OK},
		"2001 frames":           {[]string{"alt"}, 5, 2005, api.ErrSize},
		"long":                  {[]string{"alt", "long"}, 3000, 3000, api.OK},
		"long, several frames":  {[]string{"long"}, 3000, 3009, api.OK},
		"longer":                {[]string{"alt", "longer"}, 3000, 3000, api.ErrSize},
		"longer, and not asked": {[]string{"alt"}, 3000, 3000, api.OK},
		"longer, but behind 0":  {[]string{"longer", "longest"}, 2000, 2000, api.OK},
		"longer, ahead of 0":    {[]string{"longer"}, 2001, 2001, api.ErrSize},
		"the longest":           {[]string{"longest"}, 2001, 2001, api.ErrSize},
		"longest, then range":   {[]string{"longest"}, 3000, 2999, api.ErrRange},
	} {
		l, e := finding.Words(b, c.names, c.from, c.to)
		wantErrno(t, name, e, c.want)
		if e != api.OK {
			wantNothing(t, name, l)
		}
	}
	for _, n := range beyond() {
		wantWrong(t, fmt.Sprint(n), results(finding.Words(b, nil, n, 5)), api.ErrRange)
		wantWrong(t, fmt.Sprint(n), results(finding.Words(b, nil, 5, n)), api.ErrRange)
	}
}
