package event_test

import (
	"fmt"
	"slices"
	"testing"

	"orangebox/api"
	"orangebox/event"
	"orangebox/series"
)

func inputsOf(t *testing.T, l []api.Track, number int) []api.Told {
	t.Helper()
	x, e := event.Inputs(l, number)
	wantErrno(t, "Inputs", e, api.OK)
	return x
}

// F3: what is held at the last tick of a frame.
func TestInputs(t *testing.T) {
	l := []api.Track{
		track("a", 1, 0, good(63, 5), good(127, 6), good(191, 0)),
		track("b", 7, 63, good(0, 5), lost(64), good(128, 7), good(129, -8), lost(192)),
		track("c", 9, series.MaxAt, good(100, series.MaxN)),
		track("d", 1, 64, good(63, 1)),
		track("e", 1, series.MaxAt),
		track("f", 1, 0, good(62, 5), good(128, 5)),
		track("g", 1, 500, api.Sample{At: 1, N: 4, Mark: api.MarkMended}, api.Sample{At: 70, N: 4, Mark: api.MarkDoubtful}, api.Sample{At: 150, N: 5, Mark: api.MarkMended}, api.Sample{At: 191, Mark: api.MarkWrong}),
	}
	for number, want := range [][]api.Told{
		told(5, 5, unknown, 1, unknown, unknown, 4),
		told(6, unknown, series.MaxN, 1, unknown, unknown, unknown),
		told(0, -8, series.MaxN, unknown, unknown, unknown, unknown),
		told(unknown, unknown, series.MaxN, unknown, unknown, unknown, unknown),
	} {
		wantSame(t, fmt.Sprint("frame ", number), inputsOf(t, l, number), want)
	}
	wantSame(t, "the last frame", inputsOf(t, l, api.Number-1)[2], api.Told{N: series.MaxN, Known: true})
	wantSame(t, "no tracks", inputsOf(t, nil, 5), []api.Told{})
	l = []api.Track{track("a", 1, 1<<28-1, good(0, 3)), track("b", 1, 1<<28-2, good(0, 3))}
	wantSame(t, "held up to the last frame", inputsOf(t, l, api.Number-1), told(3, unknown))
	for _, b := range append(beyond(), -1, api.Number) {
		wantWrong(t, fmt.Sprint("frame ", b), results(event.Inputs(l, b)), api.ErrRange)
	}
}

// wrongTracks has tracks with errors.
func wrongTracks() map[string]struct {
	tracks []api.Track
	want   api.Errno
} {
	type row = struct {
		tracks []api.Track
		want   api.Errno
	}
	fine := track("x", 1, 5)
	var many []api.Track
	for _, name := range numbered("x", event.MaxTracks+1) {
		many = append(many, track(name, 1, 0))
	}
	return map[string]row{
		"too many":               {many, api.ErrSize},
		"too many, and no name":  {slices.Concat([]api.Track{{}}, many), api.ErrSize},
		"zero":                   {[]api.Track{{}}, api.ErrName},
		"a word":                 {[]api.Track{fine, track("phase", 1, 0)}, api.ErrName},
		"twice":                  {[]api.Track{fine, track("y", 1, 5), track("x", 0, -1)}, api.ErrTwice},
		"name, then series":      {[]api.Track{track("", 0, 5), fine, fine}, api.ErrName},
		"Den 0":                  {[]api.Track{fine, track("y", 0, -1)}, api.ErrRange},
		"falling times":          {[]api.Track{track("y", 1, -1, good(5, 1), good(4, 1))}, api.ErrOrder},
		"a lost number":          {[]api.Track{track("y", 1, -1, api.Sample{N: 1})}, api.ErrForm},
		"too many samples":       {[]api.Track{{Name: "y", Series: api.Series{Den: 1, Samples: make([]api.Sample, series.MaxSamples+1)}}}, api.ErrSize},
		"Long -1":                {[]api.Track{fine, track("y", 1, -1)}, api.ErrRange},
		"Long beyond":            {[]api.Track{track("y", 1, series.MaxAt+1)}, api.ErrRange},
		"Long, then the next":    {[]api.Track{track("y", 1, -1), {}}, api.ErrRange},
		"order, then the next":   {[]api.Track{track("y", 1, 1, good(5, 1), good(5, 1)), {}}, api.ErrOrder},
		"a series, then no name": {[]api.Track{track("y", 1, 1, api.Sample{N: 1}), {}}, api.ErrForm},
	}
}

// F3
func TestCheckTracks(t *testing.T) {
	var most []api.Track
	for _, name := range numbered("x", event.MaxTracks) {
		most = append(most, track(name, series.MaxDen, series.MaxAt, good(series.MaxAt, series.MaxN)))
	}
	for name, l := range map[string][]api.Track{"none": nil, "empty": {}, "most": most, "one": {track("x", 1, 0)}} {
		wantErrno(t, name, event.CheckTracks(l), api.OK)
	}
	for _, name := range rightNames() {
		wantErrno(t, name, event.CheckTracks([]api.Track{track(name, 1, 0)}), api.OK)
	}
	for _, name := range wrongNames() {
		wantErrno(t, name, event.CheckTracks([]api.Track{track(name, 1, 0)}), api.ErrName)
	}
	for _, b := range beyond() {
		wantErrno(t, "Long", event.CheckTracks([]api.Track{track("x", 1, b)}), api.ErrRange)
	}
	needsMore := ruledBy(t, "rule r if missing > 1")
	for name, c := range wrongTracks() {
		wantErrno(t, "CheckTracks: "+name, event.CheckTracks(c.tracks), c.want)
		wantWrong(t, "Inputs: "+name, results(event.Inputs(c.tracks, -1)), c.want)
		wantWrong(t, "Evaluate: "+name, results(event.Evaluate(needsMore, c.tracks, -1, -2)), c.want)
		wantWrong(t, "Phases: "+name, results(event.Phases(needsMore, c.tracks, -1, -2)), c.want)
		wantWrong(t, "Events: "+name, results(event.Events(needsMore, c.tracks, -1, -2)), c.want)
		wantWrong(t, "New: "+name, results(event.New(needsMore, c.tracks)), c.want)
	}
}

// F3: tracks that are missing, and frames that cannot be.
func TestEvaluateErrors(t *testing.T) {
	x, y := track("x", 1, 0), track("y", 1, 0)
	all := func(name string, r api.Rules, l []api.Track, from, to int, want api.Errno) {
		t.Helper()
		wantWrong(t, "Evaluate "+name, results(event.Evaluate(r, l, from, to)), want)
		wantWrong(t, "Phases "+name, results(event.Phases(r, l, from, to)), want)
		wantWrong(t, "Events "+name, results(event.Events(r, l, from, to)), want)
	}
	for _, text := range []string{"rule r if y > 1", "rule r if x > y", "rule r if y > x", "rule r if not steady y 1 1", "phase p move p p if for 2 y < 1 rule r if x < 1"} {
		r := ruledBy(t, text)
		all("without y: "+text, r, []api.Track{x}, -1, -2, api.ErrNone)
		wantWrong(t, "New without y: "+text, results(event.New(r, []api.Track{x})), api.ErrNone)
		wantSame(t, "Evaluate with x and y", len(truthsOf(t, r, []api.Track{y, x}, 0, 0)), 1)
	}
	r := ruledBy(t, "rule r if x > 1")
	for _, c := range [][2]int{{-1, 5}, {5, 4}, {-2, -1}, {0, -1}, {api.Number - 1, api.Number}, {api.Number, api.Number}, {0, api.Number}, {-event.MaxSpan, 0}} {
		all(fmt.Sprint("in the frames ", c), r, []api.Track{x}, c[0], c[1], api.ErrRange)
	}
	for _, b := range beyond() {
		all(fmt.Sprint("from ", b), r, []api.Track{x}, b, 9, api.ErrRange)
		all(fmt.Sprint("to ", b), r, []api.Track{x}, 0, b, api.ErrRange)
		all(fmt.Sprint("at ", b), r, []api.Track{x}, b, b, api.ErrRange)
	}
	all("too many frames", r, []api.Track{x}, 5, 5+event.MaxSpan, api.ErrSize)
	all("all frames", r, []api.Track{x}, 0, api.Number-1, api.ErrSize)
	wantSame(t, "as many frames as there can be", len(truthsOf(t, r, []api.Track{x}, api.Number-event.MaxSpan, api.Number-1)[0]), event.MaxSpan)
	wantSame(t, "one frame", truthsOf(t, r, []api.Track{x}, 5, 5), [][]int{{api.Unknown}})
}

// F3: what lies before the first frame is unknown, but what is held there is not.
func TestFirstFrame(t *testing.T) {
	r := ruledBy(t, "rule a if x = 5 rule b if for 2 x = 5 rule c if steady x 0 2 rule d if rises x = 5 rule e if since x = 5 x = 4 rule f if rises not true")
	l := []api.Track{track("x", 1, series.MaxAt, good(0, 4), good(64, 5))}
	wantSame(t, "from 0", truthsOf(t, r, l, 0, 3), [][]int{{1, 2, 2, 2}, {1, 1, 2, 2}, {0, 1, 2, 2}, {1, 2, 1, 1}, {2, 2, 2, 2}, {1, 1, 1, 1}})
	wantSame(t, "from 2", truthsOf(t, r, l, 2, 3), [][]int{{2, 2}, {0, 2}, {0, 2}, {0, 1}, {0, 0}, {1, 1}})
	wantSame(t, "no rules", truthsOf(t, api.Rules{}, l, 0, 3), [][]int{})
}

// F4: the moves from a phase, in order.
func TestPhases(t *testing.T) {
	for _, c := range []struct {
		text, x string
		want    [][]string
	}{
		{"", "12", [][]string{{}, {}}},
		{"phase p phase q", "1?", [][]string{{"p"}, {"p"}}},
		{"phase p phase q move p q if x > 1", "12?1", [][]string{{"p"}, {"q"}, {"q"}, {"q"}}},
		{"phase p phase q move p q if x > 1", "1?12", [][]string{{"p"}, {"p", "q"}, {"p", "q"}, {"q"}}},
		{"phase q phase p move q p if x > 1 move p q if x < 1", "12?0?2", [][]string{{"q"}, {"p"}, {"q", "p"}, {"q"}, {"q", "p"}, {"p"}}},
		{"phase p phase q phase s move p q if x > 1 move q s if x > 1", "222", [][]string{{"q"}, {"s"}, {"s"}}},
		{"phase p phase q phase s move p q if x > 1 move p s if x > 2", "3", [][]string{{"q"}}},
		{"phase p phase q phase s move p s if x > 2 move p q if x > 1", "3", [][]string{{"s"}}},
		{"phase p phase q phase s move p q if x > 1 move p s if true", "?", [][]string{{"q", "s"}}},
		{"phase p phase q phase s move p q if true move p s if x > 1", "?", [][]string{{"q"}}},
		{"phase p phase q phase s move p q if false move p s if x > 1", "?", [][]string{{"p", "s"}}},
		{"phase p phase q phase s move p s if x > 1 move p q if x > 2", "?", [][]string{{"p", "q", "s"}}},
		{"phase p phase q move p p if x > 1 move p q if true", "23?1", [][]string{{"p"}, {"p"}, {"p", "q"}, {"q"}}},
		{"phase p phase q move p q if for 2 x > 1", "2122", [][]string{{"p", "q"}, {"p", "q"}, {"p", "q"}, {"q"}}},
		{"phase p phase q move p q if rises x > 1 move q p if rises x > 1", "1121212", [][]string{{"p"}, {"p"}, {"q"}, {"q"}, {"p"}, {"p"}, {"q"}}},
		{"phase p phase q phase s move q p if since x > 1 x > 2 move p q if x = 9", "3292", [][]string{{"p"}, {"p"}, {"q"}, {"p"}}},
	} {
		l := []api.Track{framed("x", 1, 0, row(c.x)...)}
		wantPhases(t, c.text+" with "+c.x, phasesOf(t, ruledBy(t, c.text), l, 0, len(c.x)-1), c.want)
	}
}

// F1, F4: a phase is the only one that is possible, one of them, or none of them.
func TestPhaseTruths(t *testing.T) {
	r := ruledBy(t, "phase p phase q move p q if x > 1 rule a if phase p rule b if phase q rule c if not phase p rule d if rises phase q rule e if phase p or phase q rule f if rule b and not rule a")
	l := []api.Track{framed("x", 1, 0, row("1?12")...)}
	wantSame(t, "truths of phases", truthsOf(t, r, l, 0, 3), [][]int{{2, 0, 0, 1}, {1, 0, 0, 2}, {1, 0, 0, 2}, {1, 0, 0, 0}, {2, 0, 0, 2}, {1, 0, 0, 2}})
	l = []api.Track{framed("x", 1, 0, row("2")...)}
	wantSame(t, "a move in the first frame", truthsOf(t, r, l, 0, 0), [][]int{{1}, {2}, {2}, {0}, {2}, {2}})
	r = ruledBy(t, "phase p phase q move p q if x > 1 rule a if rises phase q")
	l = []api.Track{framed("x", 1, 0, row("12")...)}
	wantSame(t, "a phase that begins", truthsOf(t, r, l, 0, 1), [][]int{{1, 2}})
}

// F4: stretches, and whether it is false just before and just behind.
func TestEvents(t *testing.T) {
	r := ruledBy(t, "rule a if x > 3 rule b if x < 3 rule c if false rule d if not x > 3 or true")
	for x, want := range map[string][]api.Event{
		"?":        {{Rule: 3, From: 9, To: 9}},
		"5":        {{Rule: 0, From: 9, To: 9}, {Rule: 3, From: 9, To: 9}},
		"5?53":     {{Rule: 0, From: 9, To: 9}, {Rule: 0, From: 11, To: 11, Ends: true}, {Rule: 3, From: 9, To: 12}},
		"1551?5?1": {{Rule: 0, From: 10, To: 11, Begins: true, Ends: true}, {Rule: 0, From: 14, To: 14}, {Rule: 1, From: 9, To: 9, Ends: true}, {Rule: 1, From: 12, To: 12, Begins: true}, {Rule: 1, From: 16, To: 16}, {Rule: 3, From: 9, To: 16}},
		"3554":     {{Rule: 0, From: 10, To: 12, Begins: true}, {Rule: 3, From: 9, To: 12}},
	} {
		l := []api.Track{framed("x", 1, 9, row(x)...)}
		wantSame(t, x, eventsOf(t, r, l, 9, 8+len(x)), want)
	}
	wantSame(t, "no rules", eventsOf(t, api.Rules{}, nil, 0, 9), []api.Event{})
	l := []api.Track{framed("x", 1, 0, row("15551")...)}
	wantSame(t, "what is false outside of the evaluation", eventsOf(t, ruledBy(t, "rule a if x > 3"), l, 1, 3), []api.Event{{Rule: 0, From: 1, To: 3}})
}

// F3: where tracks are missing, Run goes on as if these were never known.
func TestRunWithoutTracks(t *testing.T) {
	r := dice(21)
	for range 500 {
		rules, l := someRules(r, 3, 4), someTracks(r, 5, 8)
		r.Shuffle(3, func(i, k int) { l[i], l[k] = l[k], l[i] })
		kept := r.IntN(3)
		for i := range l[kept:] {
			l[kept+i] = track(l[kept+i].Name, 7, 0)
		}
		want, phases := truthsOf(t, rules, l, 5, 12), phasesOf(t, rules, l, 5, 12)
		frame := 0
		for truths, w := range event.Run(rules, l[:kept], 5, 12) {
			for rule, truth := range truths {
				wantSame(t, fmt.Sprint("rule ", rule, " in the frame ", 5+frame), truth, want[rule][frame])
			}
			wantSame(t, fmt.Sprint("phases in the frame ", 5+frame), w.Phase(), phases[frame])
			frame++
		}
		wantSame(t, "frames", frame, 8)
	}
}
