package series_test

import (
	"fmt"
	"math/rand/v2"
	"slices"
	"testing"

	"orangebox/api"
	"orangebox/frame"
	"orangebox/layout"
	"orangebox/salvage"
	"orangebox/series"
)

// param is a parameter with one part of 11 bits.
func param(name string, word int) api.Param {
	return api.Param{Name: name, Kind: api.Unsigned, Parts: []api.Part{{Word: word, Bits: 11}}, Every: 1, Times: 1}
}

// rare is a parameter with one sample in a superframe.
func rare(name string, word int) api.Param {
	p := param(name, word)
	p.Every = 16
	return p
}

func mapOf(params ...api.Param) api.Map {
	return api.Map{Version: 7, Params: params}
}

// someMap has parameters of many forms.
func someMap() api.Map {
	return mapOf(
		api.Param{Name: "speed", Kind: api.Unsigned, Parts: []api.Part{{Word: 4, Bits: 11}, {Word: 5, Low: 8, Bits: 3}}, Every: 1, Times: 1},
		api.Param{Name: "height", Kind: api.Signed, Parts: []api.Part{{Word: 6, Low: 2, Bits: 5}, {Frame: 1, Word: 6, Bits: 6}}, Every: 2, Times: 1},
		api.Param{Name: "load", Kind: api.Decimal, Parts: []api.Part{{Word: 7, Low: 1, Bits: 8}}, First: 1, Every: 4, Times: 3, Step: 2},
		api.Param{Name: "gear", Kind: api.Code, Names: []string{"up", "down", "moving"}, Parts: []api.Part{{Frame: 3, Word: 20, Low: 10, Bits: 1}, {Word: 60, Bits: 1}}, First: 5, Every: 16, Times: 1},
		api.Param{Name: "late", Kind: api.SignSize, Parts: []api.Part{{Word: 30, Bits: 3}}, First: 7, Every: 8, Times: 7, Step: 5},
	)
}

// E2: in the order of cells, and within a frame rounded down.
func TestTimes(t *testing.T) {
	often := param("often", 4)
	often.Times, often.Step, often.First, often.Every = 57, 1, 8, 16
	want := []int{}
	for j := range 57 {
		want = append(want, 64*(48+8)+64*j/57)
	}
	three := param("three", 4)
	three.Times, three.Step, three.First, three.Every = 3, 4, 1, 8
	over := rare("over", 4)
	over.Every, over.Parts[0].Frame = 4, 5
	for name, c := range map[string]struct {
		param api.Param
		first int
		want  []int
	}{
		"one of a superframe": {rare("one", 4), 0, []int{0}},
		"one of the last":     {rare("one", 4), api.Number - 16, []int{64 * (api.Number - 16)}},
		"57 of a frame":       {often, 48, want},
		"three of two frames": {three, 16, []int{1088, 1088 + 21, 1088 + 42, 1600, 1600 + 21, 1600 + 42}},
		"not all begin":       {over, 32, []int{2048, 2304, 2560}},
	} {
		l, e := series.Times(c.param, c.first)
		wantErrno(t, name, e, api.OK)
		wantSame(t, name, l, c.want)
	}
	none := over
	none.Parts = []api.Part{{Word: 4, Bits: 1}, {Frame: 15, Word: 4, Bits: 1}}
	none.First = 1
	for name, c := range map[string]struct {
		param api.Param
		first int
		want  api.Errno
	}{
		"no name":                 {api.Param{}, -1, api.ErrName},
		"no samples":              {none, 1, api.ErrEmpty},
		"a negative frame":        {three, -16, api.ErrRange},
		"a frame too late":        {three, api.Number - 15, api.ErrRange},
		"a superframe too late":   {three, api.Number, api.ErrRange},
		"within a superframe":     {three, 8, api.ErrForm},
		"within another one":      {three, api.Number - 17, api.ErrForm},
		"negative, and within it": {three, -1, api.ErrRange},
	} {
		wantWrong(t, name, results(series.Times(c.param, c.first)), c.want)
	}
	for _, b := range beyond() {
		wantWrong(t, fmt.Sprint(b), results(series.Times(three, b)), api.ErrRange)
	}
}

// soundRest is the rest of a frame all of whose words have a state.
func soundRest(f api.Frame, state int) api.Rest {
	number, _ := frame.Number(f)
	r := api.Rest{Number: number, Frame: f, Sound: true, Copies: 1}
	for i := range r.States {
		r.States[i] = state
	}
	return r
}

// doubtfulRest is a rest of a frame of which some words are lost.
func doubtfulRest(f api.Frame, lost ...int) api.Rest {
	r := soundRest(f, api.WordDoubtful)
	r.Sound, r.Copies = false, 0
	for _, i := range lost {
		r.Frame[i], r.States[i] = 0, api.WordLost
	}
	return r
}

// built returns the frames of a superframe by a map, the first one of which has a number.
func built(t *testing.T, m api.Map, first int, l ...int) [api.Super]api.Frame {
	t.Helper()
	f, e := layout.Build(m, first, l)
	wantErrno(t, "Build", e, api.OK)
	return f
}

// counted is the values from 1 on.
func counted(count int) []int {
	var l []int
	for i := range count {
		l = append(l, 1+i)
	}
	return l
}

func fromRests(t *testing.T, m api.Map, name string, l ...api.Rest) api.Series {
	t.Helper()
	s, e := series.FromRests(m, name, l)
	wantErrno(t, "FromRests", e, api.OK)
	return s
}

// E2: the mark is that for the least state of the words of a cell, and for what is behind a series.
func TestFromRests(t *testing.T) {
	m := mapOf(param("a", 60), param("b", 4))
	var values []int
	values = append(values, counted(16)...)
	values = append(values, counted(16)...)
	f := built(t, m, 32, values...)
	put := func(r api.Rest, word, state int) api.Rest {
		r.States[word] = state
		return r
	}
	l := []api.Rest{
		soundRest(f[1], api.WordGood),
		soundRest(f[2], api.WordMended),
		put(soundRest(f[3], api.WordGood), 4, api.WordMended),
		put(soundRest(f[4], api.WordGood), 3, api.WordMended),
		put(soundRest(f[5], api.WordGood), 5, api.WordMended),
		put(soundRest(f[6], api.WordMended), 4, api.WordGood),
		doubtfulRest(f[8]),
		doubtfulRest(f[9], 4),
		doubtfulRest(f[10], 3),
		doubtfulRest(f[11], 5, 60),
		{Number: 32 + 13, Conflict: true, Copies: 2},
		{Number: 32 + 14},
	}
	want := of(1, lost(2048), good(2112, 2), mended(2176, 3), mended(2240, 4), mended(2304, 5), good(2368, 6), mended(2432, 7), lost(2496),
		doubtful(2560, 9), lost(2624), lost(2688), doubtful(2752, 12), lost(2816), lost(2880), lost(2944), lost(3008), lost(3072))
	wantSeries(t, "FromRests", fromRests(t, m, "b", l...), want)
	wantSeries(t, "no rests", fromRests(t, m, "b"), of(1))
}

// E2: superframes without rests are there, with all that is lost.
func TestFromRestsOfGaps(t *testing.T) {
	m := mapOf(rare("x", 9))
	first, last := built(t, m, 16, 5)[0], built(t, m, 64, 2047)[0]
	want := of(1, good(1024, 5), lost(2048), lost(3072), good(4096, 2047), lost(5120))
	wantSeries(t, "FromRests", fromRests(t, m, "x", soundRest(first, api.WordGood), soundRest(last, api.WordGood)), want)
	end := built(t, m, api.Number-16, 3)
	want = of(1, good(64*(api.Number-16), 3), lost(64*api.Number))
	wantSeries(t, "the last superframe", fromRests(t, m, "x", soundRest(end[0], api.WordGood)), want)
	want = of(1, lost(64*(api.Number-16)), lost(64*api.Number))
	wantSeries(t, "another frame of it", fromRests(t, m, "x", soundRest(end[15], api.WordGood)), want)
}

// E2: a frame of another version tells nothing, also if only its word 3 is not that of the map.
func TestFromRestsOfVersions(t *testing.T) {
	m := mapOf(rare("x", 9), rare("y", 10))
	m.Params[1].Parts = append(m.Params[1].Parts, api.Part{Frame: 1, Word: 10, Bits: 2})
	other := m
	other.Version = 8
	f, g := built(t, m, 16, 5, 6), built(t, other, 16, 5, 6)
	for name, c := range map[string]struct {
		first, second api.Rest
		x, y          api.Sample
	}{
		"the version":               {soundRest(f[0], api.WordGood), soundRest(f[1], api.WordGood), good(1024, 5), good(1024, 6)},
		"another one":               {soundRest(g[0], api.WordGood), soundRest(g[1], api.WordGood), lost(1024), lost(1024)},
		"another one in the first":  {soundRest(g[0], api.WordGood), soundRest(f[1], api.WordGood), lost(1024), lost(1024)},
		"another one in the second": {soundRest(f[0], api.WordGood), soundRest(g[1], api.WordGood), good(1024, 5), lost(1024)},
		"the second one mended":     {soundRest(f[0], api.WordGood), soundRest(f[1], api.WordMended), good(1024, 5), mended(1024, 6)},
		"the first one doubtful":    {doubtfulRest(f[0]), soundRest(f[1], api.WordMended), doubtful(1024, 5), doubtful(1024, 6)},
		"another one in doubt":      {doubtfulRest(g[0]), doubtfulRest(f[1]), lost(1024), lost(1024)},
		"a version that is lost":    {doubtfulRest(f[0]), doubtfulRest(f[1], 3), doubtful(1024, 5), lost(1024)},
		"a first word that is lost": {doubtfulRest(f[0], 10), doubtfulRest(f[1]), doubtful(1024, 5), lost(1024)},
	} {
		wantSeries(t, name+", x", fromRests(t, m, "x", c.first, c.second), of(1, c.x, lost(2048)))
		wantSeries(t, name+", y", fromRests(t, m, "y", c.first, c.second), of(1, c.y, lost(2048)))
	}
	wantSeries(t, "version 8", fromRests(t, other, "x", soundRest(g[0], api.WordGood)), of(1, good(1024, 5), lost(2048)))
	zero := m
	zero.Version = 0
	none := built(t, zero, 16, 5, 6)[0]
	wantSeries(t, "version 0", fromRests(t, zero, "x", soundRest(none, api.WordGood)), of(1, good(1024, 5), lost(2048)))
	wantSeries(t, "version 0 lost", fromRests(t, zero, "x", doubtfulRest(none, 3)), of(1, lost(1024), lost(2048)))
}

// E2: the data of words that are in doubt count, whatever their parity.
func TestFromRestsOfParities(t *testing.T) {
	m := mapOf(rare("x", 9))
	r := doubtfulRest(built(t, m, 16, 5)[0])
	r.Frame[3] ^= 1 << 11
	r.Frame[9] ^= 1 << 11
	wantSeries(t, "parities", fromRests(t, m, "x", r), of(1, doubtful(1024, 5), lost(2048)))
}

// E2: bits that are no value are wrong, unless a word is lost.
func TestFromRestsOfNoValues(t *testing.T) {
	m := mapOf(api.Param{Name: "gear", Kind: api.Code, Names: []string{"up", "down", "moving"}, Parts: []api.Part{{Word: 9, Low: 5, Bits: 1}, {Word: 8, Bits: 1}}, Every: 16, Times: 1})
	data := make([]int, 58)
	data[0], data[9-3], data[8-3] = 7, 1<<5, 1
	f, e := frame.New(32, data)
	wantErrno(t, "New", e, api.OK)
	wantSeries(t, "raw 3", fromRests(t, m, "gear", soundRest(f, api.WordGood)), of(1, wrong(2048), lost(3072)))
	wantSeries(t, "raw 3 in doubt", fromRests(t, m, "gear", doubtfulRest(f)), of(1, wrong(2048), lost(3072)))
	wantSeries(t, "a lost word", fromRests(t, m, "gear", doubtfulRest(f, 8)), of(1, lost(2048), lost(3072)))
	data[0] = 6
	f, _ = frame.New(32, data)
	wantSeries(t, "another version", fromRests(t, m, "gear", soundRest(f, api.WordGood)), of(1, lost(2048), lost(3072)))
}

// E2: numbers as far from 0 as parameters have.
func TestFromRestsOfGreatNumbers(t *testing.T) {
	p := api.Param{Name: "p", Kind: api.Signed, Every: 16, Times: 1}
	for i, bits := range []int{11, 11, 11, 7} {
		p.Parts = append(p.Parts, api.Part{Word: 4 + i, Bits: bits})
	}
	for _, v := range []int{-1 << 39, 1<<39 - 1, -1, 123456789012} {
		f := built(t, mapOf(p), 0, v)[0]
		wantSeries(t, fmt.Sprint(v), fromRests(t, mapOf(p), "p", soundRest(f, api.WordGood)), of(1, good(0, v), lost(1024)))
	}
}

// plainSeries reads each cell of all superframes bit by bit.
func plainSeries(t *testing.T, m api.Map, number int, l []api.Rest) api.Series {
	t.Helper()
	s := api.Series{Den: 1}
	cells, e := layout.Cells(m)
	wantErrno(t, "Cells", e, api.OK)
	first, end := l[0].Number/16*16, (l[len(l)-1].Number/16+1)*16
	for ; first < end; first += 16 {
		times, e := series.Times(m.Params[number], first)
		wantErrno(t, "Times", e, api.OK)
		for _, c := range cells {
			if c.Param == number {
				x := plainSample(t, m, c, first, l)
				x.At = times[c.Index]
				s.Samples = append(s.Samples, x)
			}
		}
	}
	s.Samples = append(s.Samples, lost(64*end))
	return s
}

func plainSample(t *testing.T, m api.Map, c api.Cell, first int, l []api.Rest) api.Sample {
	t.Helper()
	var states, bits []int
	same := true
	for _, place := range c.Places {
		i := slices.IndexFunc(l, func(r api.Rest) bool { return r.Number == first+place.Frame })
		if i < 0 {
			return api.Sample{}
		}
		states = append(states, l[i].States[place.Word], l[i].States[3])
		same = same && l[i].Frame[3]&2047 == uint16(m.Version)
		for bit := place.Low + place.Bits - 1; bit >= place.Low; bit-- {
			bits = append(bits, int(l[i].Frame[place.Word]>>bit)&1)
		}
	}
	if slices.Contains(states, api.WordLost) || !same {
		return api.Sample{}
	}
	raw := 0
	for _, bit := range bits {
		raw = 2*raw + bit
	}
	v, ok, e := layout.Decode(m.Params[c.Param], raw)
	wantErrno(t, "Decode", e, api.OK)
	if !ok {
		return api.Sample{Mark: api.MarkWrong}
	}
	mark := map[int]int{api.WordDoubtful: api.MarkDoubtful, api.WordMended: api.MarkMended, api.WordGood: api.MarkGood}[slices.Min(states)]
	return api.Sample{N: v, Mark: mark}
}

// someRest is a rest of a frame of any data with words of any states.
func someRest(t *testing.T, r *rand.Rand, number int) api.Rest {
	t.Helper()
	data := make([]int, 58)
	for i := range data {
		data[i] = r.IntN(2048)
	}
	data[0] = pick(r, 7, 7, 7, 7, 7, 7, 7, 7, 0, r.IntN(2048))
	f, e := frame.New(number, data)
	wantErrno(t, "New", e, api.OK)
	if r.IntN(3) > 0 {
		rest := soundRest(f, api.WordGood)
		for i := range rest.States {
			rest.States[i] = pick(r, api.WordGood, api.WordGood, api.WordGood, api.WordMended)
		}
		return rest
	}
	rest := doubtfulRest(f)
	for i := range rest.States {
		if r.IntN(5) == 0 {
			rest.Frame[i], rest.States[i] = 0, api.WordLost
		}
	}
	return rest
}

// E2: against a look at each bit.
func TestFromRestsMany(t *testing.T) {
	r := dice(2)
	m := someMap()
	var counts [5]int
	for range 150 {
		var l []api.Rest
		for number := 16 * r.IntN(3); number < 100; number += pick(r, 1, 1, 1, 1, 2, 20) {
			rest := someRest(t, r, number)
			wantErrno(t, "CheckRest", salvage.CheckRest(rest), api.OK)
			l = append(l, rest)
		}
		for number, p := range m.Params {
			s := fromRests(t, m, p.Name, l...)
			wantSeries(t, p.Name, s, plainSeries(t, m, number, l))
			for mark, n := range marksOf(t, s) {
				counts[mark] += n
			}
		}
	}
	if slices.Min(counts[:]) < 100 {
		t.Errorf("too few samples of some mark: %v", counts)
	}
}

// restsUpTo has so many rests of which nothing is left.
func restsUpTo(count int) []api.Rest {
	l := make([]api.Rest, count)
	for i := range l {
		l[i].Number = i
	}
	return l
}

// E2: what is wrong, in the order of the document.
func TestFromRestsErrors(t *testing.T) {
	m := mapOf(param("a", 60), rare("b", 4))
	twice := mapOf(param("a", 60), param("a", 5))
	falling := []api.Rest{{Number: 5}, {Number: 4}}
	bad := []api.Rest{{Number: 5}, {Number: 4}, {Number: -1}}
	form := []api.Rest{{Number: 5, Conflict: true, Sound: true}, {Number: -1}}
	far := []api.Rest{{Number: 0}, {Number: 16 * 1250}}
	for name, c := range map[string]struct {
		m    api.Map
		name string
		list []api.Rest
		want api.Errno
	}{
		"a map":                    {api.Map{Version: -1}, "x", bad, api.ErrRange},
		"a name that is twice":     {twice, "a", bad, api.ErrTwice},
		"no such name":             {m, "c", bad, api.ErrNone},
		"an empty name":            {m, "", bad, api.ErrNone},
		"no parameters":            {api.Map{}, "a", nil, api.ErrNone},
		"too many rests":           {m, "a", append(restsUpTo(series.MaxRests), bad...), api.ErrSize},
		"a rest, then order":       {m, "a", bad, api.ErrRange},
		"a rest with another form": {m, "a", form, api.ErrForm},
		"order":                    {m, "a", falling, api.ErrOrder},
		"order of equal numbers":   {m, "a", []api.Rest{{Number: 5}, {Number: 5}}, api.ErrOrder},
		"order, then samples":      {m, "a", append(far[:2:2], api.Rest{Number: 1}), api.ErrOrder},
		"too many samples":         {m, "a", far, api.ErrSize},
		"one sample too much":      {m, "a", []api.Rest{{Number: 0}, {Number: 16 * 1249}}, api.ErrSize},
		"as far as can be":         {m, "a", []api.Rest{{Number: 0}, {Number: api.Number - 1}}, api.ErrSize},
		"one a superframe":         {m, "b", []api.Rest{{Number: 31}, {Number: 16 + 16*19999}}, api.ErrSize},
	} {
		wantWrong(t, name, results(series.FromRests(c.m, c.name, c.list)), c.want)
	}
	wantSame(t, "MaxRests", len(fromRests(t, m, "b", restsUpTo(series.MaxRests)...).Samples), 314)
	wantSame(t, "the most of a", len(fromRests(t, m, "a", api.Rest{Number: 15}, api.Rest{Number: 16 * 1248}).Samples), 1249*16+1)
	wantSame(t, "MaxSamples of b", len(fromRests(t, m, "b", api.Rest{Number: 31}, api.Rest{Number: 16 + 16*19998}).Samples), series.MaxSamples)
}

// E2: what was recorded, torn and salvaged is what was given, as far as it is solid.
func TestFromRestsOfSalvage(t *testing.T) {
	r := dice(3)
	m := someMap()
	given := map[string]map[int]int{}
	var bytes []byte
	for first := 160; first < 320; first += 16 {
		values := someValues(t, r, m)
		cells, _ := layout.Cells(m)
		for i, c := range cells {
			p := m.Params[c.Param]
			times, _ := series.Times(p, first)
			if given[p.Name] == nil {
				given[p.Name] = map[int]int{}
			}
			given[p.Name][times[c.Index]] = values[i]
		}
		for _, f := range built(t, m, first, values...) {
			b, e := frame.ToBytes(f)
			wantErrno(t, "ToBytes", e, api.OK)
			bytes = append(append(bytes, b...), 0)
		}
	}
	for at := 500; at < len(bytes); at += 300 + r.IntN(300) {
		bytes[at] ^= 1 << r.IntN(8)
	}
	rests, e := salvage.Salvage([]api.Piece{{Bytes: bytes[50:6000]}, {Bytes: bytes[7000:]}})
	wantErrno(t, "Salvage", e, api.OK)
	for name, at := range given {
		s := fromRests(t, m, name, rests...)
		counts := marksOf(t, s)
		for _, x := range s.Samples {
			if v, ok := at[x.At]; isSolid(x) && (!ok || x.N != v) {
				t.Errorf("%s at %d: got %d, want %d", name, x.At, x.N, v)
			}
		}
		if counts[api.MarkGood]+counts[api.MarkMended] < len(at)/2 || counts[api.MarkLost] < 2 {
			t.Errorf("%s: marks %v", name, counts)
		}
	}
}

func someValues(t *testing.T, r *rand.Rand, m api.Map) []int {
	t.Helper()
	cells, e := layout.Cells(m)
	wantErrno(t, "Cells", e, api.OK)
	var l []int
	for _, c := range cells {
		low, high, _ := layout.Range(m.Params[c.Param])
		l = append(l, low+r.IntN(high-low+1))
	}
	return l
}
