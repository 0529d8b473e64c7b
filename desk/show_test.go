package desk_test

import (
	"fmt"
	"testing"

	"orangebox/api"
	"orangebox/desk"
	"orangebox/finding"
	"orangebox/frame"
)

const lastSecond = api.Number/8 - 1

func shownIn(t *testing.T, b api.Book, second int) []api.Shown {
	t.Helper()
	l, e := desk.Show(b, second)
	wantErrno(t, "Show", e, api.OK)
	return l
}

func survives(t *testing.T, b api.Book, second int) bool {
	t.Helper()
	is, e := desk.Survives(b, second)
	wantErrno(t, "Survives", e, api.OK)
	return is
}

func secondsOf(t *testing.T, b api.Book) []int {
	t.Helper()
	l, e := desk.Seconds(b)
	wantErrno(t, "Seconds", e, api.OK)
	return l
}

func good(at, n int) api.Sample { return api.Sample{At: at, N: n, Mark: api.MarkGood} }

// J3: a second has eight frames; each source is shown in order, also without samples there.
func TestShow(t *testing.T) {
	b := bookOf(t, someCase(t), 16, superValues(1, 2))
	for second, want := range map[int][]api.Shown{
		0: {{Track: "alt"}, {Track: "speed"}, {Track: "g"}, {Track: "flaps"}},
		2: {
			{Track: "alt", Samples: many(8, func(i int) api.Sample { return good(1024+64*i, 1+i) })},
			{Track: "speed", Samples: many(8, func(i int) api.Sample {
				if n := 5*(1+i) - 20; n >= 0 {
					return good(1024+64*i, n)
				}
				return api.Sample{At: 1024 + 64*i, Mark: api.MarkWrong}
			})},
			{Track: "g", Samples: many(4, func(i int) api.Sample { return good(1088+128*i, 1+i) })},
			{Track: "flaps", Samples: []api.Sample{good(1024, 2)}},
		},
		3: {
			{Track: "alt", Samples: many(8, func(i int) api.Sample { return good(1536+64*i, 9+i) })},
			{Track: "speed", Samples: many(8, func(i int) api.Sample { return good(1536+64*i, 25+5*i) })},
			{Track: "g", Samples: many(4, func(i int) api.Sample { return good(1600+128*i, 5+i) })},
			{Track: "flaps"},
		},
		4:          many(4, func(i int) api.Shown { return api.Shown{Track: b.Sources[i].Track, Samples: []api.Sample{{At: 2048}}} }),
		5:          {{Track: "alt"}, {Track: "speed"}, {Track: "g"}, {Track: "flaps"}},
		lastSecond: {{Track: "alt"}, {Track: "speed"}, {Track: "g"}, {Track: "flaps"}},
	} {
		wantSame(t, fmt.Sprint("second ", second), shownIn(t, b, second), want)
	}
	wantSame(t, "seconds", secondsOf(t, b), []int{2, 3})
	wantSame(t, "of nothing", shownIn(t, api.Book{}, 0), []api.Shown{})
	wantSame(t, "of nothing", survives(t, api.Book{}, 0), false)
	wantSame(t, "of nothing", secondsOf(t, api.Book{}), []int{})
	b.Sources = nil
	wantSame(t, "without sources", fmt.Sprint(shownIn(t, b, 2), survives(t, b, 2), secondsOf(t, b)), "[] false []")
}

// J3: the last second of all, behind which nothing can be shown.
func TestTheLastSecond(t *testing.T) {
	b := bookOf(t, someCase(t), api.Number-16, superValues(10, 1))
	wantSame(t, "seconds", secondsOf(t, b), []int{lastSecond - 1, lastSecond})
	wantSame(t, "alt", shownIn(t, b, lastSecond)[0].Samples[7], good(64*(api.Number-1), 25))
	wantSame(t, "survives", survives(t, b, lastSecond), true)
}

// J3: what spoils a second: samples that are lost or doubtful, or wrong with words that are not solid.
func TestSurvives(t *testing.T) {
	c := someCase(t)
	c.Rules, c.Twins = api.Rules{}, nil
	c.Sources = sourcesOf(t, "speed speed 100 1 0 400 0 2047 1 -8\nflaps flap 0\n") // speed is wrong in the first seven frames
	set := func(frames []int, word, state int) func(*api.Book) {
		return func(b *api.Book) {
			for _, i := range frames {
				x := &b.Rests[i]
				x.States[word] = state
				if state > api.WordDoubtful {
					continue
				}
				x.Sound, x.Copies = false, 0
				for k := range x.States {
					x.States[k] = api.WordDoubtful
				}
				if x.States[word] = state; state == api.WordLost {
					x.Frame[word] = 0
				}
			}
		}
	}
	for name, f := range map[string]struct {
		change func(*api.Book)
		want   []int
	}{
		"all is good":                         {func(*api.Book) {}, []int{0, 1}},
		"mended words":                        {set([]int{0, 1, 5, 8, 9}, 4, api.WordMended), []int{0, 1}},
		"mended words 3":                      {set([]int{0, 1, 5, 8, 9}, 3, api.WordMended), []int{0, 1}},
		"a word that nobody needs":            {set([]int{0}, 62, api.WordMended), []int{0, 1}},
		"a doubtful number":                   {set([]int{8}, 4, api.WordDoubtful), []int{0}},
		"a lost number":                       {set([]int{15}, 4, api.WordLost), []int{0}},
		"a wrong number in doubtful words":    {set([]int{2}, 4, api.WordDoubtful), []int{1}},
		"a wrong number without a version":    {set([]int{2}, 3, api.WordLost), []int{1}},
		"a frame that is not there":           {func(b *api.Book) { b.Rests = append(b.Rests[:9], b.Rests[10:]...) }, []int{0}},
		"a wrong number that is not there":    {func(b *api.Book) { b.Rests = b.Rests[1:] }, []int{1}},
		"another version":                     {func(b *api.Book) { b.Map.Version++ }, nil},
		"a flap in two seconds":               {func(b *api.Book) { b.Map.Params[2].Parts[0].Frame = 9 }, []int{0, 1}},
		"a flap whose second word is later":   {func(b *api.Book) { flapLater(b); set([]int{9}, 6, api.WordMended)(b) }, []int{0, 1}},
		"a flap whose later word is doubtful": {func(b *api.Book) { flapLater(b); set([]int{9}, 4, api.WordLost)(b) }, nil},
		"numbers that can never be":           {func(b *api.Book) { b.Sources[0].Meaning[0].High = 0 }, []int{0, 1}},
	} {
		b := bookOf(t, c, 0, superValues(1, 1))
		f.change(&b)
		wantErrno(t, name, finding.CheckBook(b), api.OK)
		wantSame(t, name, secondsOf(t, b), f.want)
		for second := range 4 {
			wantSame(t, fmt.Sprint(name, ", second ", second), survives(t, b, second), second < 2 && fmt.Sprint(f.want) != "[]" && (f.want[0] == second || len(f.want) == 2))
		}
	}
}

// flapLater moves a part of flap into the second second.
func flapLater(b *api.Book) {
	b.Map.Params[2].Parts = []api.Part{{Word: 6, Bits: 1}, {Frame: 9, Word: 6, Low: 1, Bits: 1}}
}

// J3: a number that its bits do not tell is wrong, and its second survives if its words are solid.
func TestWrongBits(t *testing.T) {
	c := someCase(t)
	b := bookOf(t, c, 0, superValues(10, 0))
	data := make([]int, 58)
	data[0], data[1], data[2], data[3] = 7, 13, 0xAA, 3 // no digits, and no name of a code
	f, e := frame.New(3, data)
	wantErrno(t, "New", e, api.OK)
	b.Rests[3].Frame = f
	wantSame(t, "g", shownIn(t, b, 0)[2].Samples[1], api.Sample{At: 192, Mark: api.MarkWrong})
	wantSame(t, "flaps", shownIn(t, b, 0)[3].Samples[0], api.Sample{At: 0, Mark: api.MarkWrong})
	wantSame(t, "seconds", secondsOf(t, b), []int{0, 1})
	b.Rests[3].States[5] = api.WordMended
	wantSame(t, "seconds", secondsOf(t, b), []int{0, 1})
	b.Rests[3].Sound, b.Rests[3].Copies = false, 0
	for i := range b.Rests[3].States {
		b.Rests[3].States[i] = api.WordDoubtful
	}
	b.Sources = b.Sources[2:]
	wantSame(t, "g", shownIn(t, b, 0)[0].Samples[1], api.Sample{At: 192, Mark: api.MarkWrong})
	wantSame(t, "seconds", secondsOf(t, b), []int{1})
	b.Sources = b.Sources[1:]
	wantSame(t, "flaps", shownIn(t, b, 0)[0].Samples[0], api.Sample{At: 0, Mark: api.MarkWrong})
	wantSame(t, "seconds", secondsOf(t, b), []int{})
}

// J3: what is shown and what survives is that of the plainest reading.
func TestShowIsPlain(t *testing.T) {
	r := dice(3)
	counts := map[bool]int{}
	for range 100 {
		b := chanceBook(t, r, chanceCase(t, r))
		var want []int
		for second := range 30 {
			wantSame(t, "Show", shownIn(t, b, second), plainShow(t, b, second))
			is := plainSurvives(t, b, second)
			wantSame(t, fmt.Sprint("Survives ", second), survives(t, b, second), is)
			if is {
				want = append(want, second)
			}
			counts[is]++
		}
		wantSame(t, "Seconds", secondsOf(t, b), want)
	}
	if counts[true] < 100 || counts[false] < 100 {
		t.Errorf("%d seconds survive, %d do not", counts[true], counts[false])
	}
}

// J3: the errors of a book first, then those of the second.
func TestShowErrors(t *testing.T) {
	b := bookOf(t, someCase(t), 16, superValues(1, 2))
	for _, second := range append(beyond(), -1, lastSecond+1) {
		wantWrong(t, fmt.Sprint("Show ", second), results(desk.Show(b, second)), api.ErrRange)
		wantWrong(t, fmt.Sprint("Survives ", second), results(desk.Survives(b, second)), api.ErrRange)
		wantWrong(t, fmt.Sprint("Show ", second), results(desk.Show(api.Book{}, second)), api.ErrRange)
		wantWrong(t, fmt.Sprint("Survives ", second), results(desk.Survives(api.Book{}, second)), api.ErrRange)
	}
	b.Rests[2], b.Rests[3] = b.Rests[3], b.Rests[2]
	for _, second := range []int{2, -1} {
		wantWrong(t, "Show", results(desk.Show(b, second)), api.ErrOrder)
		wantWrong(t, "Survives", results(desk.Survives(b, second)), api.ErrOrder)
	}
	wantWrong(t, "Seconds", results(desk.Seconds(b)), api.ErrOrder)
	b.Sources[1].Track = ""
	wantWrong(t, "Seconds", results(desk.Seconds(b)), api.ErrName)
}

// J3: whatever is lost, what is solid was given at its time, and all that was given in a second that survives is there.
func TestWhatSurvivesWasGiven(t *testing.T) {
	r := dice(4)
	survived, solid, lost := 0, 0, 0
	for range 400 {
		x := chanceFlight(t, r)
		b := readOf(t, x.c, x.pieces)
		for _, rest := range b.Rests {
			if rest.Sound {
				wantSame(t, "a sound frame", rest.Frame, x.frames[rest.Number-x.first])
			}
		}
		for _, s := range b.Sources {
			given := x.given(t, s)
			solid, lost = x.wantGiven(t, b, s, given, solid, lost)
		}
		survived += len(secondsOf(t, b))
	}
	if survived < 500 || solid < 5000 || lost < 5000 {
		t.Errorf("%d seconds survived, %d samples are solid, %d are not", survived, solid, lost)
	}
}

// wantGiven looks at the samples of a source, and counts those that are solid, and those that are not.
func (x flown) wantGiven(t *testing.T, b api.Book, s api.Source, given map[int]api.Sample, solid, lost int) (int, int) {
	t.Helper()
	tracks, e := finding.Tracks(api.Book{Map: b.Map, Sources: []api.Source{s}, Rests: b.Rests})
	wantErrno(t, "Tracks", e, api.OK)
	told := map[int]api.Sample{}
	for _, sample := range tracks[0].Series.Samples {
		told[sample.At] = sample
		if sample.Mark < api.MarkMended {
			lost++
			continue
		}
		solid++
		wantSame(t, fmt.Sprint("what is solid at ", sample.At), sample.N, given[sample.At].N)
		wantSame(t, fmt.Sprint("what is solid at ", sample.At), given[sample.At].Mark, api.MarkGood)
	}
	for _, second := range secondsOf(t, b) {
		for at, sample := range given {
			if at/512 == second {
				got := told[at]
				wantSame(t, fmt.Sprint("what was given at ", at), fmt.Sprint(got.N, got.Mark == api.MarkWrong), fmt.Sprint(sample.N, sample.Mark == api.MarkWrong))
			}
		}
	}
	return solid, lost
}
