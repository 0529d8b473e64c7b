package desk_test

import (
	"fmt"
	"math/rand/v2"
	"slices"
	"strings"
	"testing"

	"orangebox/api"
	"orangebox/desk"
	"orangebox/event"
	"orangebox/finding"
	"orangebox/frame"
	"orangebox/layout"
	"orangebox/ring"
	"orangebox/salvage"
	"orangebox/series"
)

// This file has random cases and what becomes of them, and the plainest reading of the words of the document, slow as it is.

// chanceCase has some parameters of many forms, and a source or more for each of them.
func chanceCase(t *testing.T, r *rand.Rand) api.Case {
	t.Helper()
	all := []string{
		"param a unsigned first 0 every 1\npart 0 4 0 11\n",
		"param b signed first 0 every 2\npart 0 6 2 5\npart 1 6 0 6\n",
		"param c decimal first 1 every 4 times 3 step 2\npart 0 7 1 8\n",
		"param d code first 5 every 16\npart 3 20 10 1\npart 0 60 0 1\nname up\nname down\nname moving\n",
		"param e sign-size first 0 every 16\npart 0 22 0 4\npart 9 22 0 4\n",
		"param f flag first 3 every 8\npart 0 30 5 1\n",
	}
	text, names := fmt.Sprintf("map %d\n", r.IntN(2048)), []string{}
	for _, i := range r.Perm(len(all))[:1+r.IntN(4)] {
		text += all[i]
		names = append(names, all[i][6:7])
	}
	c := api.Case{Map: mapOf(t, text)}
	for i := range len(names) + r.IntN(3) {
		s := api.Source{Track: fmt.Sprint("t", i), Param: names[i%len(names)], Long: pick(r, 0, 63, 64, 200, 1100)}
		if r.IntN(2) == 0 {
			s.Meaning = []api.Calibration{chanceMeaning(r)}
		}
		c.Sources = append(c.Sources, s)
	}
	name := func() string { return c.Sources[r.IntN(len(c.Sources))].Track }
	c.Rules = ruled(t, fmt.Sprintf("rule x if %s > %d\nrule y if for 2 %s >= %s\nrule z if not rule x and %s != 0", name(), r.IntN(50), name(), name(), name()))
	for range r.IntN(4) {
		c.Twins = append(c.Twins, api.Twins{A: name(), B: name(), Most: r.IntN(40)})
	}
	return c
}

// chanceMeaning is a calibration in which some numbers cannot be.
func chanceMeaning(r *rand.Rand) api.Calibration {
	c := api.Calibration{Den: pick(r, 1, 2, 10), Low: pick(r, -10000, -10000, -20), High: pick(r, 10000, 10000, 60)}
	from := pick(r, -1100, -1100, 0, 3)
	for range 1 + r.IntN(3) {
		to := from + pick(r, 0, 40, 800, 3000)
		c.Lines = append(c.Lines, api.Line{From: from, To: to, A: r.IntN(7) - 3, B: r.IntN(40) - 20})
		from = to + 1 + r.IntN(2)
	}
	return c
}

// chanceValues are values of a superframe.
func chanceValues(t *testing.T, r *rand.Rand, m api.Map) []int {
	t.Helper()
	cells, e := layout.Cells(m)
	wantErrno(t, "Cells", e, api.OK)
	var l []int
	for _, c := range cells {
		low, high, e := layout.Range(m.Params[c.Param])
		wantErrno(t, "Range", e, api.OK)
		v := low + r.IntN(high-low+1)
		if r.IntN(3) > 0 {
			v = max(low, min(high, r.IntN(20)))
		}
		l = append(l, v)
	}
	return l
}

// sensor is what the values of a superframe that begins with a frame are in a track, by their times, with MarkWrong for those that cannot be.
func sensor(t *testing.T, m api.Map, s api.Source, first int, values []int) map[int]api.Sample {
	t.Helper()
	cells, _ := layout.Cells(m)
	given := map[int]api.Sample{}
	for i, c := range cells {
		p := m.Params[c.Param]
		if p.Name != s.Param {
			continue
		}
		times, e := series.Times(p, first)
		wantErrno(t, "Times", e, api.OK)
		x := api.Sample{At: times[c.Index], N: values[i], Mark: api.MarkGood}
		for _, meaning := range s.Meaning {
			x.N, x.Mark = plainMeaning(meaning, values[i])
		}
		given[x.At] = x
	}
	return given
}

func plainMeaning(c api.Calibration, v int) (n, mark int) {
	for _, l := range c.Lines {
		if n := l.A*v + l.B; l.From <= v && v <= l.To && c.Low <= n && n <= c.High {
			return n, api.MarkGood
		}
	}
	return 0, api.MarkWrong
}

// chanceBook has frames of which some are lost, spoilt, mended, or packed by another map, and digits that are none.
func chanceBook(t *testing.T, r *rand.Rand, c api.Case) api.Book {
	t.Helper()
	b := api.Book{Map: c.Map, Sources: c.Sources}
	spoilt := pick(r, 0, 5, 30) // of a hundred frames
	first := pick(r, 0, 16, 160) + pick(r, 0, 0, r.IntN(16))
	for number, end := first, first+1+r.IntN(60); number < end; number++ {
		if r.IntN(200) >= spoilt {
			b.Rests = append(b.Rests, chanceRest(t, r, c.Map, number, spoilt))
		}
	}
	return b
}

func chanceRest(t *testing.T, r *rand.Rand, m api.Map, number, spoilt int) api.Rest {
	t.Helper()
	data := many(58, func(int) int { return pick(r, r.IntN(2048), r.IntN(30)) })
	data[0] = m.Version
	if r.IntN(300) < spoilt {
		data[0] = (m.Version + 1) % 2048
	}
	f, e := frame.New(number, data)
	wantErrno(t, "frame.New", e, api.OK)
	x := api.Rest{Number: number, Frame: f, Sound: true, Copies: 1}
	for i := range x.States {
		x.States[i] = api.WordGood
	}
	words := many(10, func(int) int { return pick(r, 3, 4, 6, 7, 9, 11, 20, 22, 30, 60, r.IntN(64)) })
	switch n := r.IntN(100); {
	case n < 15:
		for _, i := range words {
			x.States[i] = api.WordMended
		}
	case n < 15+spoilt/3:
		x.Sound, x.Copies = false, 0
		for i := range x.States {
			x.States[i] = api.WordDoubtful
		}
		for _, i := range words[:r.IntN(10)] {
			x.Frame[i], x.States[i] = 0, api.WordLost
		}
	case n < 15+spoilt/2:
		x = api.Rest{Number: number, Conflict: true, Copies: 2}
	}
	return x
}

// plainShow looks at all samples of all tracks.
func plainShow(t *testing.T, b api.Book, second int) []api.Shown {
	t.Helper()
	tracks, e := finding.Tracks(b)
	wantErrno(t, "Tracks", e, api.OK)
	var l []api.Shown
	for _, x := range tracks {
		shown := api.Shown{Track: x.Name}
		for _, s := range x.Series.Samples {
			if number := s.At / 64; 8*second <= number && number <= 8*second+7 {
				shown.Samples = append(shown.Samples, s)
			}
		}
		l = append(l, shown)
	}
	return l
}

func plainSurvives(t *testing.T, b api.Book, second int) bool {
	t.Helper()
	some := false
	for i, x := range plainShow(t, b, second) {
		for _, s := range x.Samples {
			some = true
			isSolid := s.Mark == api.MarkGood || s.Mark == api.MarkMended
			if !isSolid && !(s.Mark == api.MarkWrong && plainSolid(t, b, b.Sources[i].Param, s.At)) {
				return false
			}
		}
	}
	return some
}

// plainSolid reports whether all words of the sample of a parameter at a time are solid.
func plainSolid(t *testing.T, b api.Book, param string, at int) bool {
	t.Helper()
	states := map[api.Where]int{}
	for _, x := range b.Rests {
		for i, state := range x.States {
			states[api.Where{Number: x.Number, Word: i}] = state
		}
	}
	cells, e := layout.Cells(b.Map)
	wantErrno(t, "Cells", e, api.OK)
	first := at / 64 / 16 * 16
	for _, c := range cells {
		p := b.Map.Params[c.Param]
		if times, _ := series.Times(p, first); p.Name != param || times[c.Index] != at {
			continue
		}
		for _, place := range c.Places {
			for _, word := range []int{3, place.Word} {
				state := states[api.Where{Number: first + place.Frame, Word: word}]
				if state != api.WordMended && state != api.WordGood {
					return false
				}
			}
		}
		return true
	}
	t.Errorf("no sample of %s at %d", param, at)
	return false
}

// plainReport writes line by line what other functions tell.
func plainReport(t *testing.T, c api.Case, b api.Book, first, last int) string {
	t.Helper()
	var s strings.Builder
	fmt.Fprintln(&s, "frames", first, last)
	gaps, _ := salvage.Gaps(b.Rests)
	for _, g := range gaps {
		if !(g.To < first || g.From > last) {
			fmt.Fprintln(&s, "gap", g.From, g.To)
		}
	}
	for _, x := range b.Rests {
		if x.Conflict && first <= x.Number && x.Number <= last {
			fmt.Fprintln(&s, "conflict", x.Number)
		}
	}
	tracks, _ := finding.Tracks(b)
	events, _ := event.Events(c.Rules, tracks, first, last)
	for _, x := range events {
		fmt.Fprintln(&s, "event", c.Rules.Rules[x.Rule].Name, x.From, x.To, map[bool]string{true: "sure", false: "open"}[x.Begins && x.Ends])
	}
	clashes, _ := finding.Clashes(tracks, c.Twins, first, last)
	for _, x := range clashes {
		fmt.Fprintln(&s, "clash", c.Twins[x.Twins].A, c.Twins[x.Twins].B, x.From, x.To)
	}
	found, e := finding.Find(b, c.Rules, first, last)
	wantErrno(t, "Find", e, api.OK)
	for _, f := range found {
		told, e := finding.Tell(b, f)
		wantErrno(t, "Tell", e, api.OK)
		s.WriteString(told)
	}
	return s.String()
}

// flown is a flight that was recorded and crashed.
type flown struct {
	c      api.Case
	first  int
	values [][]int
	frames []api.Frame
	pieces []api.Piece
}

// chanceFlight is recorded into some memories, until power fails, or for as long as it lasts, and crashes without flips.
func chanceFlight(t *testing.T, r *rand.Rand) flown {
	t.Helper()
	x := flown{c: chanceCase(t, r), first: 16 * pick(r, 0, 1, 100, api.Number/16-6)}
	for range 1 + r.IntN(6) {
		x.values = append(x.values, chanceValues(t, r, x.c.Map))
	}
	x.frames = recorded(t, x.c, x.first, x.values...)
	count := 1 + r.IntN(3)
	m := many(count, func(int) api.Memory { return memory(t, 2+r.IntN(4), 1+r.IntN(30)) })
	m, _, _, e := desk.Store(x.frames, m, 1+r.IntN(count), pick(r, ring.MaxPower, ring.MaxPower, r.IntN(10000)))
	wantErrno(t, "Store", e, api.OK)
	halves := 0
	for _, k := range m {
		halves += 2 * len(k.Sectors) * len(k.Sectors[0])
	}
	cuts := many(r.IntN(6), func(int) int { return r.IntN(halves + 1) })
	slices.Sort(cuts)
	pieces := crashed(t, m, cuts, nil)
	x.pieces = crashed(t, m, cuts, r.Perm(len(pieces))[:r.IntN(len(pieces)+1)/2])
	return x
}

// given is what the sensors gave to a track, by times.
func (x flown) given(t *testing.T, s api.Source) map[int]api.Sample {
	t.Helper()
	all := map[int]api.Sample{}
	for i, values := range x.values {
		for at, sample := range sensor(t, x.c.Map, s, x.first+16*i, values) {
			all[at] = sample
		}
	}
	return all
}
