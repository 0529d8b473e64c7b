package finding_test

import (
	"cmp"
	"math/rand/v2"
	"slices"
	"strconv"
	"strings"
	"testing"

	"orangebox/api"
	"orangebox/event"
	"orangebox/frame"
	"orangebox/layout"
	"orangebox/series"
)

// This file has random books and rules, and the plainest reading of the words of the document, slow as it is.

// someBook has parameters of many forms, in frames of which some are lost, spoilt, mended, or packed by another map.
func someBook(t *testing.T, r *rand.Rand) api.Book {
	t.Helper()
	b := api.Book{Map: api.Map{Version: 7, Params: []api.Param{
		param("speed", 4),
		{Name: "height", Kind: api.Signed, Parts: []api.Part{{Word: 6, Low: 2, Bits: 5}, {Frame: 1, Word: 6, Bits: 6}}, Every: 2, Times: 1},
		{Name: "load", Kind: api.Decimal, Parts: []api.Part{{Word: 7, Low: 1, Bits: 8}}, First: 1, Every: 4, Times: 3, Step: 2},
		{Name: "gear", Kind: api.Code, Names: []string{"up", "down", "moving"}, Parts: []api.Part{{Frame: 3, Word: 20, Low: 10, Bits: 1}, {Word: 4 + 56, Bits: 1}}, First: 5, Every: 16, Times: 1},
	}}}
	b.Sources = []api.Source{
		source("a", "speed", pick(r, 0, 62, 63, 64, 200)),
		source("b", "speed", pick(r, 63, 100)),
		source("c", "height", pick(r, 63, 127, 128, 500)),
		source("d", "load", pick(r, 20, 21, 42, 63, 300, 2000)),
		source("e", "gear", pick(r, 1023, 1024, 5000)),
	}
	b.Sources[1].Meaning = []api.Calibration{line(pick(r, 1, 3), 0, pick(r, 1500, 2047), 1, 0)}
	first := 16 * r.IntN(3)
	spoilt := pick(r, 0, 10, 40) // of a hundred frames
	for number := first; number < first+16*(1+r.IntN(3)); number++ {
		if r.IntN(200) >= spoilt {
			b.Rests = append(b.Rests, someRest(t, r, number, spoilt))
		}
	}
	return b
}

// someFrames are frames in a book, or a little around it.
func someFrames(r *rand.Rand, b api.Book, most int) (first, number int) {
	if len(b.Rests) > 0 {
		first = max(0, b.Rests[0].Number-2+r.IntN(len(b.Rests)))
	}
	return first, first + r.IntN(most)
}

func someRest(t *testing.T, r *rand.Rand, number, spoilt int) api.Rest {
	t.Helper()
	data := make([]int, 58)
	for i := range data {
		data[i] = r.IntN(2048)
		if r.IntN(3) == 0 {
			data[i] = r.IntN(200) // so that some decimal digits are digits
		}
	}
	data[0] = 7
	if r.IntN(400) < spoilt {
		data[0] = 8
	}
	f, e := frame.New(number, data)
	wantErrno(t, "frame.New", e, api.OK)
	rest := sound(f)
	some := many(20, func(int) int { return pick(r, 3, 4, 6, 7, 9, 11, 20, 60, r.IntN(64)) })
	switch x := r.IntN(100); {
	case x < 10:
		return mended(rest, some[:r.IntN(20)]...)
	case x < 10+spoilt/3:
		return doubtful(rest, some[:r.IntN(10)]...)
	case x < 10+spoilt/2:
		return api.Rest{Number: number, Conflict: true, Copies: 2}
	}
	return rest
}

// someCond is a text of a condition; that of a move has neither rules nor phases in it.
func someCond(r *rand.Rand, levels int, of ...string) string {
	part := func() string { return "(" + someCond(r, levels-1, of...) + ")" }
	frames := strconv.Itoa(1 + r.IntN(4))
	if levels == 0 {
		name, n := pick(r, "a", "b", "c", "d", "e"), pick(r, "0", "1", "20", "500", "1000", "-3")
		return pick(r, append(of,
			name+pick(r, " < ", " <= ", " = ", " != ", " >= ", " > ")+n,
			name+pick(r, " < ", " >= ", " != ")+pick(r, "a", "b", "c"),
			"steady "+name+" "+pick(r, "0", "900", "3000")+" "+frames,
			pick(r, "true", "false", "a > 900", "a >= 0"))...)
	}
	switch r.IntN(8) {
	case 0:
		return "not " + part()
	case 1:
		return "for " + frames + " " + part()
	case 2:
		return "within " + frames + " " + part()
	case 3:
		return "count 2 of 4 " + part()
	case 4:
		return "rises " + part()
	case 5:
		return "since " + part() + " " + part()
	case 6:
		return part() + " and " + part()
	}
	return part() + " or " + part()
}

// someRules has three rules, the later ones of which can have the earlier ones in them.
func someRules(t *testing.T, r *rand.Rand) api.Rules {
	t.Helper()
	return ruledBy(t, strings.Join([]string{
		"phase p", "phase q",
		"move p q if " + someCond(r, r.IntN(2)), "move q p if " + someCond(r, r.IntN(2)),
		"rule x if " + someCond(r, r.IntN(3), "phase p"),
		"rule y if " + someCond(r, r.IntN(4), "rule x", "phase q"),
		"rule z if " + someCond(r, r.IntN(4), "rule x", "rule y", "phase p"),
	}, "\n"))
}

// cellWords are the words of a cell in a superframe that begins with a frame.
func cellWords(c api.Cell, first int) []api.Where {
	var l []api.Where
	for _, p := range c.Places {
		l = append(l, api.Where{Number: first + p.Frame, Word: p.Word}, api.Where{Number: first + p.Frame, Word: 3})
	}
	return l
}

// eachCell calls a function for each cell of a source, in each superframe, with the time of its sample.
func eachCell(t *testing.T, b api.Book, s api.Source, f func(p api.Param, c api.Cell, first, at int)) {
	t.Helper()
	if len(b.Rests) == 0 {
		return
	}
	cells, e := layout.Cells(b.Map)
	wantErrno(t, "Cells", e, api.OK)
	for first := b.Rests[0].Number / 16 * 16; first <= b.Rests[len(b.Rests)-1].Number; first += 16 {
		for _, c := range cells {
			if p := b.Map.Params[c.Param]; p.Name == s.Param {
				f(p, c, first, 64*(first+c.Frame)+64*(c.Index%p.Times)/p.Times)
			}
		}
	}
}

func plainRest(b api.Book, number int) api.Rest {
	for _, r := range b.Rests {
		if r.Number == number {
			return r
		}
	}
	return api.Rest{}
}

// plainSample reads a cell of which only some words are left.
func plainSample(b api.Book, p api.Param, c api.Cell, first, at int, isLeft func(api.Where) bool) api.Sample {
	state, raw, other := api.WordGood, 0, false
	for _, w := range cellWords(c, first) {
		if !isLeft(w) {
			return lost(at)
		}
		state = min(state, plainRest(b, w.Number).States[w.Word])
	}
	for _, p := range c.Places {
		words := plainRest(b, first+p.Frame).Frame
		other = other || int(words[3])&2047 != b.Map.Version
		for bit := p.Low + p.Bits - 1; bit >= p.Low; bit-- {
			raw = 2*raw + int(words[p.Word])>>bit&1
		}
	}
	if state == api.WordLost || other {
		return lost(at)
	}
	v, ok, _ := layout.Decode(p, raw)
	if !ok {
		return api.Sample{At: at, Mark: api.MarkWrong}
	}
	return api.Sample{At: at, N: v, Mark: state + 1}
}

// plainTracks returns the tracks of a book of which only some words are left.
func plainTracks(t *testing.T, b api.Book, isLeft func(api.Where) bool) []api.Track {
	t.Helper()
	var tracks []api.Track
	for _, s := range b.Sources {
		made := track(s.Track, 1, s.Long)
		end := 0
		eachCell(t, b, s, func(p api.Param, c api.Cell, first, at int) {
			made.Series.Samples = append(made.Series.Samples, plainSample(b, p, c, first, at, isLeft))
			end = api.Ticks * (first + 16)
		})
		if len(b.Rests) > 0 {
			made.Series.Samples = append(made.Series.Samples, lost(end))
		}
		for _, c := range s.Meaning {
			x, e := series.Calibrate(made.Series, c)
			wantErrno(t, "Calibrate", e, api.OK)
			made.Series = x
		}
		tracks = append(tracks, made)
	}
	return tracks
}

func inList[T comparable](l []T) func(T) bool {
	in := map[T]bool{}
	for _, x := range l {
		in[x] = true
	}
	return func(x T) bool { return in[x] }
}

func all(api.Where) bool { return true }

func plainWords(t *testing.T, b api.Book, names []string, from, to int) []api.Where {
	t.Helper()
	var l []api.Where
	for _, s := range b.Sources {
		if !slices.Contains(names, s.Track) {
			continue
		}
		eachCell(t, b, s, func(_ api.Param, c api.Cell, first, at int) {
			if at >= 64*from-s.Long+63 && at <= 64*to+63 {
				l = append(l, cellWords(c, first)...)
			}
		})
	}
	slices.SortFunc(l, func(a, b api.Where) int {
		return cmp.Or(cmp.Compare(a.Number, b.Number), cmp.Compare(a.Word, b.Word))
	})
	return slices.Compact(l)
}

func plainSolid(b api.Book, w api.Where) bool {
	s := plainRest(b, w.Number).States[w.Word]
	return s == api.WordGood || s == api.WordMended
}

// plainTruth is what Evaluate says of all rules.
func plainTruth(t *testing.T, r api.Rules, l []api.Track, rule string, first, number int) int {
	t.Helper()
	truths, e := event.Evaluate(r, l, first, number)
	wantErrno(t, "Evaluate", e, api.OK)
	for i, x := range r.Rules {
		if x.Name == rule {
			return truths[i][number-first]
		}
	}
	t.Fatal("no rule ", rule)
	return -1
}

// plainNeeded goes from a rule to those in it.
func plainNeeded(r api.Rules, rule string) []string {
	var names []string
	var look func(c api.Cond)
	look = func(c api.Cond) {
		switch c.Kind {
		case api.CondNumber, api.CondSteady:
			names = append(names, c.Name)
		case api.CondTracks:
			names = append(names, c.Name, c.Other)
		case api.CondRule:
			names = append(names, plainNeeded(r, c.Name)...)
		case api.CondPhase:
			for _, m := range r.Moves {
				look(m.When)
			}
		}
		for _, kid := range c.Kids {
			look(kid)
		}
	}
	for _, x := range r.Rules {
		if x.Name == rule {
			look(x.When)
		}
	}
	slices.Sort(names)
	return slices.Compact(names)
}

// plainFewest leaves out one after the other.
func plainFewest[T comparable](l []T, isEnough func(left []T) bool) []T {
	for i := 0; i < len(l); {
		others := slices.Delete(slices.Clone(l), i, i+1)
		if isEnough(others) {
			l = others
		} else {
			i++
		}
	}
	return l
}

// spotTracks are tracks that are known only in some spots.
func spotTracks(l []api.Track, left []api.Spot, told map[api.Spot]int) []api.Track {
	var tracks []api.Track
	for _, x := range l {
		made := track(x.Name, x.Series.Den, 0)
		for _, s := range left {
			if s.Track == x.Name {
				made.Series.Samples = append(made.Series.Samples, good(64*s.Number+63, told[s]))
			}
		}
		tracks = append(tracks, made)
	}
	return tracks
}
